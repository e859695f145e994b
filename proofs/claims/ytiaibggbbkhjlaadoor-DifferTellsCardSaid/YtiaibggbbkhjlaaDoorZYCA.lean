/-
  What follows of a step that keeps values by a keeper, whatever its constraint's kind is: what is left was left; of less, less is left; no row that holds loses a value; of single values all is left just if the constraint holds. Nothing of the program.
  What is kept of different values: none, where one has none left or there are too few together; else what isn't the only one that is left of another one. Nothing of the program.
  The document's answers for steps, as lists of what is left, are a step by a keeper: of any kind of constraint. Nothing of the program.
  What a step of different values leaves: the document's rows keep by the keeper of different values. Nothing of the program.
  How often a value is the only one left: what counted of package differ counts, and that it tells what is kept. Nothing of the program.
-/
import Derived.Test.YtiaibggbbkhjlaaDoorZYBT
import Derived.Test.YtiaibggbbkhjlaaDoorZYBB
import Derived.Test.YtiaibggbbkhjlaaDoorZYAX
import Derived.Test.YtiaibggbbkhjlaaDoorZYAW
namespace Go.Proofs.YtiaibggbbkhjlaaDoor.Ge
open Go.RowKit St
set_option maxRecDepth 100000

/-- the domains of some variables -/
def domsOf (L : List (List Int × Nat)) (vars : List Int) : List (List Int × Nat) := vars.map fun v => L.getD v.toNat ([], 0)
theorem doms_get {L : List (List Int × Nat)} {vars : List Int} {k : Nat} (h : k < vars.length) : (domsOf L vars).getD k ([], 0) = L.getD (vars.getD k 0).toNat ([], 0) := by
  unfold domsOf
  rw [List.getD_eq_getElem?_getD, List.getElem?_map, List.getElem?_eq_getElem h]
  simp [List.getD, List.getElem?_eq_getElem h]
theorem doms_length (L : List (List Int × Nat)) (vars : List Int) : (domsOf L vars).length = vars.length := by simp [domsOf]
/-- domains, some of which are set anew, place by place -/
def stepTo (L : List (List Int × Nat)) (vars : List Int) (K : Nat → Int → Bool) (j : Nat) : List (List Int × Nat) :=
  (List.range j).foldl (fun A k => A.set (vars.getD k 0).toNat ((L.getD (vars.getD k 0).toNat ([], 0)).1, Dm.keepN (L.getD (vars.getD k 0).toNat ([], 0)).1 (L.getD (vars.getD k 0).toNat ([], 0)).2 (K k))) L
theorem stepTo_succ (L : List (List Int × Nat)) (vars : List Int) (K : Nat → Int → Bool) (j : Nat) : stepTo L vars K (j + 1) = (stepTo L vars K j).set (vars.getD j 0).toNat ((L.getD (vars.getD j 0).toNat ([], 0)).1, Dm.keepN (L.getD (vars.getD j 0).toNat ([], 0)).1 (L.getD (vars.getD j 0).toNat ([], 0)).2 (K j)) := by
  unfold stepTo
  rw [List.range_succ, List.foldl_append]
  rfl
theorem stepTo_length (L : List (List Int × Nat)) (vars : List Int) (K : Nat → Int → Bool) : ∀ j, (stepTo L vars K j).length = L.length
  | 0 => rfl
  | j + 1 => by rw [stepTo_succ, List.length_set, stepTo_length L vars K j]
theorem vars_ne {vars : List Int} {n : Int} (h : VarsTo vars n vars.length) {a b : Nat} (ha : a < vars.length) (hb : b < vars.length) (hne : a ≠ b) : (vars.getD a 0).toNat ≠ (vars.getD b 0).toNat := by
  have h1 := (h a ha).1
  have h2 := (h b hb).1
  intro e
  have e2 : vars.getD a 0 = vars.getD b 0 := by omega
  rcases Nat.lt_or_gt_of_ne hne with q | q
  · exact (h b hb).2 a q e2
  · exact (h a ha).2 b q e2.symm
theorem getD_set (M : List (List Int × Nat)) (y : Nat) (d : List Int × Nat) (i : Nat) : (M.set y d).getD i ([], 0) = if y = i ∧ y < M.length then d else M.getD i ([], 0) := by
  rw [List.getD_eq_getElem?_getD, List.getElem?_set]
  by_cases e : y = i
  · subst e
    by_cases hl : y < M.length
    · simp [hl]
    · simp [hl]
  · simp [e]
/-- of a variable at a place: what is set there -/
theorem stepTo_at {L : List (List Int × Nat)} {vars : List Int} {K : Nat → Int → Bool} (h : VarsTo vars (L.length : Int) vars.length) : ∀ {j a : Nat}, j ≤ vars.length → a < j → (stepTo L vars K j).getD (vars.getD a 0).toNat ([], 0) = ((L.getD (vars.getD a 0).toNat ([], 0)).1, Dm.keepN (L.getD (vars.getD a 0).toNat ([], 0)).1 (L.getD (vars.getD a 0).toNat ([], 0)).2 (K a))
  | 0, a, _, ha => by omega
  | j + 1, a, hj, ha => by
    rw [stepTo_succ, getD_set, stepTo_length]
    by_cases e : a = j
    · subst e
      rw [if_pos ⟨rfl, by have := (h a (by omega)).1; omega⟩]
    · rw [if_neg (fun q => vars_ne h (a := j) (b := a) (by omega) (by omega) (fun q => e q.symm) q.1)]
      exact stepTo_at h (by omega) (by omega)
theorem stepTo_off {L : List (List Int × Nat)} {vars : List Int} {K : Nat → Int → Bool} {i : Nat} : ∀ {j : Nat}, (∀ a, a < j → (vars.getD a 0).toNat ≠ i) → (stepTo L vars K j).getD i ([], 0) = L.getD i ([], 0)
  | 0, _ => rfl
  | j + 1, h => by
    rw [stepTo_succ, getD_set, if_neg (fun q => h j (Nat.lt_succ_self j) q.1)]
    exact stepTo_off fun a ha => h a (by omega)
theorem getD_mem {xs : List Int} {k : Nat} (h : k < xs.length) : xs.getD k 0 ∈ xs := by
  rw [List.getD_eq_getElem?_getD, List.getElem?_eq_getElem h]
  exact List.getElem_mem h
theorem sub_iff {x y : Nat} (hx : x < 18446744073709551616) (hy : y < 18446744073709551616) : subB x y = true ↔ ∀ k, k < 64 → x.testBit k = true → y.testBit k = true := by
  unfold subB
  rw [decide_eq_true_eq]
  constructor
  · intro h k hk hb
    have : (x &&& (18446744073709551615 - y)).testBit k = false := by rw [h, Nat.zero_testBit]
    rw [Nat.testBit_and, B.not_bit hk hy, hb] at this
    simpa using this
  · intro h
    refine B.same_bits (Nat.lt_of_le_of_lt Nat.and_le_left hx) (by decide) fun k hk => ?_
    rw [Nat.testBit_and, B.not_bit hk hy, Nat.zero_testBit]
    cases hb : x.testBit k
    · rfl
    · rw [h k hk hb]; rfl
theorem left_iff {d : List Int × Nat} (h : Dm.mayL d.1 d.2 = true) (v : Int) : v ∈ St.leftOf d ↔ ∃ k, k < d.1.length ∧ d.2.testBit k = true ∧ d.1.getD k 0 = v := by
  unfold St.leftOf Dm.leftM
  rw [if_pos h]
  exact Dm.left_mem h v
theorem left_keep {xs : List Int} {x : Nat} (h : Dm.mayL xs x = true) (p : Int → Bool) (v : Int) : v ∈ St.leftOf (xs, Dm.keepN xs x p) ↔ v ∈ St.leftOf (xs, x) ∧ p v = true := by
  have h64 := (Dm.may_iff.1 h).1
  rw [left_iff (d := (xs, Dm.keepN xs x p)) (Dm.keep_may h p), left_iff (d := (xs, x)) h]
  simp only
  constructor
  · rintro ⟨k, hk, hb, rfl⟩
    rw [Dm.keep_bit _ _ _ _ (by omega)] at hb
    simp only [Bool.and_eq_true] at hb
    exact ⟨⟨k, hk, hb.1, rfl⟩, hb.2.2⟩
  · rintro ⟨⟨k, hk, hb, rfl⟩, hp⟩
    refine ⟨k, hk, ?_, rfl⟩
    rw [Dm.keep_bit _ _ _ _ (by omega), hb, hp, decide_eq_true hk]
    rfl
theorem fewer_less {L : List (List Int × Nat)} {ms : List Nat} {i : Nat} (hi : i < L.length) : ((fewerL L ms).getD i ([], 0)).1 = (L.getD i ([], 0)).1 ∧ ((fewerL L ms).getD i ([], 0)).2 ≤ (L.getD i ([], 0)).2 ∧ ∀ k, ((fewerL L ms).getD i ([], 0)).2.testBit k = true → (L.getD i ([], 0)).2.testBit k = true := by
  rw [fewer_getD hi]
  refine ⟨rfl, ?_, fun k hb => ?_⟩
  · simp only
    split
    · exact Nat.and_le_left
    · exact Nat.le_refl _
  · simp only at hb
    split at hb
    · rw [Nat.testBit_and] at hb
      simp only [Bool.and_eq_true] at hb
      exact hb.1
    · exact hb
theorem fewer_may {L : List (List Int × Nat)} {ms : List Nat} {i : Nat} (hi : i < L.length) (h : Dm.mayL (L.getD i ([], 0)).1 (L.getD i ([], 0)).2 = true) : Dm.mayL ((fewerL L ms).getD i ([], 0)).1 ((fewerL L ms).getD i ([], 0)).2 = true := by
  obtain ⟨h1, h2, _⟩ := fewer_less (ms := ms) hi
  rw [Dm.may_iff] at h ⊢
  rw [h1]
  exact ⟨h.1, by omega, h.2.2⟩
theorem fewer_left {L : List (List Int × Nat)} {ms : List Nat} {i : Nat} (hi : i < L.length) (h : Dm.mayL (L.getD i ([], 0)).1 (L.getD i ([], 0)).2 = true) (y : Int) (hy : y ∈ St.leftOf ((fewerL L ms).getD i ([], 0))) : y ∈ St.leftOf (L.getD i ([], 0)) := by
  obtain ⟨h1, _, h3⟩ := fewer_less (ms := ms) hi
  rw [left_iff (fewer_may hi h)] at hy
  rw [left_iff h]
  obtain ⟨k, hk, hb, rfl⟩ := hy
  rw [h1] at hk ⊢
  exact ⟨k, hk, h3 k hb, rfl⟩
theorem may_lt64 {xs : List Int} {x : Nat} (h : Dm.mayL xs x = true) : x < 18446744073709551616 := Dm.may_lt h
/-- domains of single values, of variables -/
def oneD (row vars : List Int) : List (List Int × Nat) := vars.map fun v => ([Gr.val row v], 1)
theorem oneD_length (row vars : List Int) : (oneD row vars).length = vars.length := by simp [oneD]
theorem oneD_get {row vars : List Int} {k : Nat} (h : k < vars.length) : (oneD row vars).getD k ([], 0) = ([Gr.val row (vars.getD k 0)], 1) := by
  unfold oneD
  rw [List.getD_eq_getElem?_getD, List.getElem?_map, List.getElem?_eq_getElem h]
  simp [List.getD, List.getElem?_eq_getElem h]
theorem one_may {v : Int} (h : -1048576 ≤ v ∧ v ≤ 1048576) : Dm.mayL [v] 1 = true := by
  rw [Dm.may_iff]
  refine ⟨by simp, by simp, ?_⟩
  simp [Dm.riseF, h.1, h.2]
theorem left_one {v : Int} (h : -1048576 ≤ v ∧ v ≤ 1048576) : St.leftOf ([v], 1) = [v] := by
  unfold St.leftOf Dm.leftM
  rw [if_pos (one_may h), Dm.left_len (one_may h)]
  rfl
theorem left_row {row : List Int} {L : List (List Int × Nat)} (h : leftB row L = true) : row.length = L.length ∧ ∀ i, i < L.length → row.getD i 0 ∈ St.leftOf (L.getD i ([], 0)) := of_decide_eq_true h
theorem keepN_one (v : Int) (p : Int → Bool) : Dm.keepN [v] 1 p = if p v = true then 1 else 0 := by
  refine B.same_bits (Dm.keep_lt _ _ _) (by split <;> decide) fun k hk => ?_
  rw [Dm.keep_bit _ _ _ _ hk]
  rcases Nat.eq_zero_or_pos k with rfl | h
  · cases hp : p v <;> simp [hp]
  · have h1 : (1 : Nat).testBit k = false := Nat.testBit_lt_two_pow (Nat.one_lt_two_pow (by omega))
    rw [h1, Bool.false_and]
    split
    · exact h1.symm
    · rw [Nat.zero_testBit]
/-- domains of the values of a row -/
def singles (row : List Int) : List (List Int × Nat) := row.map fun v => ([v], 1)
theorem singles_length (row : List Int) : (singles row).length = row.length := by simp [singles]
theorem singles_getD {row : List Int} {i : Nat} (h : i < row.length) : (singles row).getD i ([], 0) = ([row.getD i 0], 1) := by
  unfold singles
  rw [List.getD_eq_getElem?_getD, List.getElem?_map, List.getElem?_eq_getElem h]
  simp [List.getD, List.getElem?_eq_getElem h]
theorem singles_rows (row : List Int) : ∀ d ∈ singles row, d.1.length ≤ 1000 := by
  intro d hd
  obtain ⟨v, _, rfl⟩ := List.mem_map.1 hd
  simp
theorem singles_take {row : List Int} {k : Nat} (h : k < row.length) : singles (row.take (k + 1)) = singles (row.take k) ++ [([row.getD k 0], 1)] := by
  unfold singles
  rw [List.take_succ_eq_append_getElem h, List.map_append]
  simp [List.getD, List.getElem?_eq_getElem h]
theorem singles_doms {row vars : List Int} (h : VarsTo vars (row.length : Int) vars.length) : domsOf (singles row) vars = oneD row vars := by
  unfold domsOf oneD
  refine List.map_congr_left fun v hv => ?_
  obtain ⟨i, hi, rfl⟩ := List.getElem_of_mem hv
  have hr := (h i hi).1
  rw [List.getD_eq_getElem?_getD, List.getElem?_eq_getElem hi] at hr
  have hr2 : 0 ≤ vars[i] ∧ vars[i] < (row.length : Int) := hr
  rw [singles_getD (by omega)]
  rfl
/-- is all left of these variables? -/
def allO (A : List (List Int × Nat)) (vars : List Int) (j : Nat) : Bool := (vars.take j).all fun v => decide ((A.getD v.toNat ([], 0)).2 = 1)
theorem allO_succ {A : List (List Int × Nat)} {vars : List Int} {j : Nat} (h : j < vars.length) : allO A vars (j + 1) = (allO A vars j && decide ((A.getD (vars.getD j 0).toNat ([], 0)).2 = 1)) := by
  unfold allO
  have e : vars.getD j 0 = vars[j] := by rw [List.getD_eq_getElem?_getD, List.getElem?_eq_getElem h]; rfl
  rw [List.take_succ_eq_append_getElem h, List.all_append, e, List.all_cons, List.all_nil, Bool.and_true]

/-- may a constraint of some kind, and domains, be? -/
noncomputable def rightK (kinds : List Int) (c : PCon) (L : List (List Int × Nat)) : Bool := (decide (c.kind ∈ kinds) && rightC c L.length) && !(L.any fun d => !Dm.mayL d.1 d.2)
/-- a step by a keeper -/
noncomputable def stepK (kinds : List Int) (Kp : PCon → List (List Int × Nat) → Nat → Int → Bool) (c : PCon) (L : List (List Int × Nat)) : List (List Int × Nat) × Int :=
  if rightK kinds c L = true then (stepTo L c.vars (Kp c (domsOf L c.vars)) c.vars.length, 0) else ([], 1)
open Classical in
theorem vars_to {c : PCon} {n : Int} (h : rightC c n = true) : VarsTo c.vars n c.vars.length := by
  unfold rightC at h
  rw [Bool.and_eq_true] at h
  exact of_decide_eq_true h.1
/-- of less a keeper keeps less -/
def Falls (Kp : PCon → List (List Int × Nat) → Nat → Int → Bool) (c : PCon) : Prop :=
  ∀ (D' D : List (List Int × Nat)), D'.length = c.vars.length → D.length = c.vars.length → (∀ i, i < c.vars.length → ∀ y, y ∈ St.leftOf (D'.getD i ([], 0)) → y ∈ St.leftOf (D.getD i ([], 0))) → ∀ a, a < c.vars.length → ∀ x, Kp c D' a x = true → Kp c D a x = true
/-- of single values it keeps each just if the constraint holds -/
def Single (Kp : PCon → List (List Int × Nat) → Nat → Int → Bool) (c : PCon) : Prop :=
  ∀ (row : List Int), Gr.rowOk row = true → ∀ a, a < c.vars.length → Kp c (oneD row c.vars) a (Gr.val row (c.vars.getD a 0)) = Gr.holdsG c row
section
variable {kinds : List Int} {Kp : PCon → List (List Int × Nat) → Nat → Int → Bool} {c : PCon} {L : List (List Int × Nat)} {row : List Int}
theorem rightK_parts (h : rightK kinds c L = true) : c.kind ∈ kinds ∧ rightC c L.length = true ∧ ∀ i, i < L.length → Dm.mayL (L.getD i ([], 0)).1 (L.getD i ([], 0)).2 = true := by
  unfold rightK at h
  simp only [Bool.and_eq_true, decide_eq_true_eq] at h
  refine ⟨h.1.1, h.1.2, fun i hi => ?_⟩
  have h2 : (L.any fun d => !Dm.mayL d.1 d.2) = false := by simpa using h.2
  rw [List.any_eq_false] at h2
  simpa using h2 _ (doms_in hi)
theorem rightK_of (hk : c.kind ∈ kinds) (hr : rightC c L.length = true) (hm : ∀ i, i < L.length → Dm.mayL (L.getD i ([], 0)).1 (L.getD i ([], 0)).2 = true) : rightK kinds c L = true := by
  unfold rightK
  rw [decide_eq_true hk, hr]
  have h2 : (L.any fun d => !Dm.mayL d.1 d.2) = false := by
    rw [List.any_eq_false]
    intro d hd
    obtain ⟨i, hi, rfl⟩ := List.getElem_of_mem hd
    have := hm i hi
    rw [List.getD_eq_getElem?_getD, List.getElem?_eq_getElem hi] at this
    simpa using this
  rw [h2]
  rfl
theorem stepK_on (h : rightK kinds c L = true) : stepK kinds Kp c L = (stepTo L c.vars (Kp c (domsOf L c.vars)) c.vars.length, 0) := by unfold stepK; rw [if_pos h]
theorem stepK_off (h : rightK kinds c L = false) : stepK kinds Kp c L = ([], 1) := by unfold stepK; rw [h]; rfl
theorem stepK_at (h : rightK kinds c L = true) (i : Nat) : (stepTo L c.vars (Kp c (domsOf L c.vars)) c.vars.length).getD i ([], 0) = L.getD i ([], 0) ∨
    ∃ a, a < c.vars.length ∧ (c.vars.getD a 0).toNat = i ∧ (stepTo L c.vars (Kp c (domsOf L c.vars)) c.vars.length).getD i ([], 0) = ((L.getD i ([], 0)).1, Dm.keepN (L.getD i ([], 0)).1 (L.getD i ([], 0)).2 (Kp c (domsOf L c.vars) a)) := by
  obtain ⟨_, hr, _⟩ := rightK_parts h
  by_cases hv : ∃ a, a < c.vars.length ∧ (c.vars.getD a 0).toNat = i
  · obtain ⟨a, ha, rfl⟩ := hv
    exact .inr ⟨a, ha, rfl, stepTo_at (vars_to hr) (Nat.le_refl _) ha⟩
  · exact .inl (stepTo_off fun a ha e => hv ⟨a, ha, e⟩)
theorem stepK_rows (hm : ∀ d ∈ L, d.1.length ≤ 1000) : ∀ d ∈ (stepK kinds Kp c L).1, d.1.length ≤ 1000 := by
  have key : ∀ (K : Nat → Int → Bool) (j : Nat), ∀ d ∈ stepTo L c.vars K j, d.1.length ≤ 1000 := fun K j => by
    induction j with
    | zero => exact hm
    | succ j ih =>
      intro d h
      rw [stepTo_succ] at h
      rcases List.mem_or_eq_of_mem_set h with h | h
      · exact ih d h
      · rw [h]
        show (L.getD (c.vars.getD j 0).toNat ([], 0)).1.length ≤ 1000
        by_cases hi : (c.vars.getD j 0).toNat < L.length
        · exact hm _ (doms_in hi)
        · rw [List.getD_eq_getElem?_getD, List.getElem?_eq_none (by omega)]
          simp
  unfold stepK
  split
  · exact key _ _
  · simp
theorem stepK_length (hn : L.length ≤ 1000) : (stepK kinds Kp c L).1.length ≤ 1000 := by
  unfold stepK
  split
  · simp only [stepTo_length]; exact hn
  · simp
theorem falls_law (hF : Falls Kp c) (ms : List Nat) (h : rightK kinds c L = true) : rightK kinds c (fewerL L ms) = true ∧ withinB (stepK kinds Kp c (fewerL L ms)).1 (stepK kinds Kp c L).1 = true := by
  obtain ⟨hk, hr, hm⟩ := rightK_parts h
  have h' : rightK kinds c (fewerL L ms) = true := rightK_of hk (by rw [fewer_length]; exact hr) fun i hi => by rw [fewer_length] at hi; exact fewer_may hi (hm i hi)
  refine ⟨h', ?_⟩
  rw [stepK_on h, stepK_on h']
  unfold withinB
  rw [decide_eq_true_eq]
  refine ⟨by rw [stepTo_length, stepTo_length, fewer_length], fun i hi => ?_⟩
  rw [stepTo_length, fewer_length] at hi
  obtain ⟨f1, _, f3⟩ := fewer_less (ms := ms) hi
  have hmi := hm i hi
  have hmf := fewer_may (ms := ms) hi hmi
  have hvt := vars_to hr
  have hvf : VarsTo c.vars ((fewerL L ms).length : Int) c.vars.length := by rw [fewer_length]; exact hvt
  by_cases hv : ∃ a, a < c.vars.length ∧ (c.vars.getD a 0).toNat = i
  · obtain ⟨a, ha, rfl⟩ := hv
    rw [stepTo_at hvt (Nat.le_refl _) ha, stepTo_at hvf (Nat.le_refl _) ha]
    refine ⟨f1, (sub_iff (Dm.keep_lt _ _ _) (Dm.keep_lt _ _ _)).2 fun k hk64 hb => ?_⟩
    rw [Dm.keep_bit _ _ _ _ hk64, f1] at hb
    rw [Dm.keep_bit _ _ _ _ hk64]
    simp only [Bool.and_eq_true, decide_eq_true_eq] at hb ⊢
    refine ⟨f3 k hb.1, hb.2.1, hF _ _ (doms_length _ _) (doms_length _ _) (fun j hj y hy => ?_) a ha _ hb.2.2⟩
    rw [doms_get hj] at hy ⊢
    have hjn : (c.vars.getD j 0).toNat < L.length := by have := (hvt j hj).1; omega
    exact fewer_left hjn (hm _ hjn) y hy
  · have hoff : ∀ a, a < c.vars.length → (c.vars.getD a 0).toNat ≠ i := fun a ha e => hv ⟨a, ha, e⟩
    rw [stepTo_off hoff, stepTo_off hoff]
    exact ⟨f1, (sub_iff (may_lt64 hmf) (may_lt64 hmi)).2 fun k _ hb => f3 k hb⟩
theorem within_law (h : rightK kinds c L = true) : withinB (stepK kinds Kp c L).1 L = true := by
  obtain ⟨_, _, hm⟩ := rightK_parts h
  rw [stepK_on h]
  unfold withinB
  rw [decide_eq_true_eq]
  refine ⟨stepTo_length _ _ _ _, fun i hi => ?_⟩
  rw [stepTo_length] at hi
  have hmi := hm i hi
  rcases stepK_at (Kp := Kp) h i with e | ⟨a, ha, hai, e⟩
  · rw [e]
    exact ⟨rfl, (sub_iff (may_lt64 hmi) (may_lt64 hmi)).2 fun _ _ hb => hb⟩
  · rw [e]
    refine ⟨rfl, (sub_iff (Dm.keep_lt _ _ _) (may_lt64 hmi)).2 fun k hk hb => ?_⟩
    rw [Dm.keep_bit _ _ _ _ hk] at hb
    simp only [Bool.and_eq_true] at hb
    exact hb.1
theorem sound_law (hF : Falls Kp c) (hS : Single Kp c) (h : rightK kinds c L = true) (hl : leftB row L = true) (hr : Gr.rightG [c] row = true) (hh : Gr.holdsG c row = true) : leftB row (stepK kinds Kp c L).1 = true := by
  obtain ⟨hk, hrc, hm⟩ := rightK_parts h
  obtain ⟨hlen, hin⟩ := left_row hl
  rw [Gr.rightG_one, Bool.and_eq_true] at hr
  rw [stepK_on h]
  unfold leftB
  rw [decide_eq_true_eq]
  refine ⟨by rw [stepTo_length]; exact hlen, fun i hi => ?_⟩
  rw [stepTo_length] at hi
  rcases stepK_at (Kp := Kp) h i with e | ⟨a, ha, hai, e⟩
  · rw [e]; exact hin i hi
  · rw [e]
    refine (left_keep (hm i hi) _ _).2 ⟨hin i hi, ?_⟩
    have ev : row.getD i 0 = Gr.val row (c.vars.getD a 0) := by unfold Gr.val; rw [hai]
    rw [ev]
    refine hF (oneD row c.vars) _ (oneD_length _ _) (doms_length _ _) (fun j hj y hy => ?_) a ha _ ((hS row hr.1 a ha).trans hh)
    rw [oneD_get hj, left_one (Gr.val_small hr.1 _)] at hy
    obtain rfl : y = Gr.val row (c.vars.getD j 0) := by simpa using hy
    rw [doms_get hj]
    have hjn : (c.vars.getD j 0).toNat < L.length := by have := (vars_to hrc j hj).1; omega
    exact hin _ hjn
theorem single_law (hS : Single Kp c) (hlen : 0 < c.vars.length) (hg : Gr.rightG [c] row = true) (h : rightK kinds c (singles row) = true) : allO (stepK kinds Kp c (singles row)).1 c.vars c.vars.length = Gr.holdsG c row := by
  rw [Gr.rightG_one, Bool.and_eq_true] at hg
  obtain ⟨_, hr, _⟩ := rightK_parts h
  rw [singles_length] at hr
  have hvt := vars_to hr
  have hvs : VarsTo c.vars ((singles row).length : Int) c.vars.length := by rw [singles_length]; exact hvt
  have key : ∀ a, a < c.vars.length → decide (((stepK kinds Kp c (singles row)).1.getD (c.vars.getD a 0).toNat ([], 0)).2 = 1) = Gr.holdsG c row := by
    intro a ha
    have hv := (hvt a ha).1
    rw [stepK_on h]
    show decide (((stepTo (singles row) c.vars (Kp c (domsOf (singles row) c.vars)) c.vars.length).getD (c.vars.getD a 0).toNat ([], 0)).2 = 1) = _
    rw [stepTo_at hvs (Nat.le_refl _) ha, singles_getD (by omega), singles_doms hvt]
    simp only
    rw [keepN_one, show row.getD (c.vars.getD a 0).toNat 0 = Gr.val row (c.vars.getD a 0) from rfl, hS row hg.1 a ha]
    cases Gr.holdsG c row <;> rfl
  unfold allO
  rw [List.take_length]
  cases hh : Gr.holdsG c row
  · rw [List.all_eq_false]
    refine ⟨_, getD_mem hlen, ?_⟩
    rw [key 0 hlen, hh]
    decide
  · rw [List.all_eq_true]
    intro v hv
    obtain ⟨a, ha, rfl⟩ := List.getElem_of_mem hv
    have := key a ha
    rw [List.getD_eq_getElem?_getD (l := c.vars), List.getElem?_eq_getElem ha] at this
    exact this.trans hh
end
end Go.Proofs.YtiaibggbbkhjlaaDoor.Ge
namespace Go.Proofs.YtiaibggbbkhjlaaDoor.Ge
open Go.RowKit St
set_option maxRecDepth 100000

theorem rise_lt : ∀ {xs : List Int} {m : Int}, Dm.riseF m xs = true → xs.Pairwise (· < ·)
  | [], _, _ => .nil
  | v :: r, m, h => by
    obtain ⟨_, _, h2⟩ := Dm.rise_cons.1 h
    exact .cons (fun y hy => by have := (Dm.rise_low h2 hy).1; omega) (rise_lt h2)
theorem lt_at {xs : List Int} (h : xs.Pairwise (· < ·)) {i j : Nat} (hij : i < j) (hj : j < xs.length) : xs.getD i 0 < xs.getD j 0 := by
  rw [List.getD_eq_getElem?_getD, List.getD_eq_getElem?_getD, List.getElem?_eq_getElem (by omega), List.getElem?_eq_getElem hj]
  exact List.pairwise_iff_getElem.1 h i j (by omega) hj hij
theorem left_nodup (d : List Int × Nat) : (St.leftOf d).Nodup := by
  have key : (St.leftOf d).Pairwise (· < ·) := by
    unfold St.leftOf Dm.leftM
    split
    · rename_i hm
      rw [Dm.left_len hm]
      refine List.pairwise_map.2 ?_
      have h1 : (B.mem d.1.length d.2).Pairwise (· < ·) := by
        unfold B.mem
        exact List.Pairwise.filter _ List.pairwise_lt_range
      refine List.Pairwise.imp_of_mem ?_ h1
      intro i j _ hj hlt
      exact lt_at (rise_lt (Dm.may_iff.1 hm).2.2) hlt (B.mem_lt hj)
    · exact .nil
  exact List.Pairwise.imp (fun h => Int.ne_of_lt h) key
theorem one_of {l : List Int} {x : Int} (h : l.Nodup) (hne : l ≠ []) (hs : ∀ y ∈ l, y = x) : l = [x] := by
  match l, hne with
  | [y], _ => rw [hs y (by simp)]
  | y :: z :: t, _ =>
    have h1 := hs y (by simp)
    have h2 := hs z (by simp)
    rw [h1, h2] at h
    simp at h
/-- pigeons -/
theorem short_of : ∀ {S l : List Int}, S.Nodup → (∀ y ∈ S, y ∈ l) → S.length ≤ l.length
  | [], _, _, _ => Nat.zero_le _
  | x :: S, l, h, hs => by
    rw [List.nodup_cons] at h
    have hx := hs x (by simp)
    have h1 : S.length ≤ (l.erase x).length := short_of h.2 fun y hy => (List.mem_erase_of_ne (fun e : y = x => h.1 (by rw [← e]; exact hy))).2 (hs y (by simp [hy]))
    have h2 := List.length_erase_of_mem hx
    have h3 := List.length_pos_of_mem hx
    rw [List.length_cons]
    omega
theorem twice_of : ∀ {l : List Int}, ¬ l.Nodup → ∃ x, x ∈ l ∧ x ∈ l.erase x
  | [], h => absurd List.nodup_nil h
  | y :: l, h => by
    by_cases hy : y ∈ l
    · exact ⟨y, by simp, by simpa using hy⟩
    · have hl : ¬ l.Nodup := fun q => h (List.nodup_cons.2 ⟨hy, q⟩)
      obtain ⟨x, h1, h2⟩ := twice_of hl
      have hne : y ≠ x := fun e => hy (e ▸ h1)
      refine ⟨x, by simp [h1], ?_⟩
      rw [List.erase_cons, if_neg (by simpa using hne)]
      exact List.mem_cons_of_mem _ h2
theorem nodup_of {S l : List Int} (h : S.Nodup) (hl : S.length = l.length) (hs : ∀ y ∈ S, y ∈ l) : l.Nodup := by
  by_cases q : l.Nodup
  · exact q
  · obtain ⟨x, h1, h2⟩ := twice_of q
    have h3 := short_of (l := l.erase x) h fun y hy => by
      by_cases e : y = x
      · rw [e]; exact h2
      · exact (List.mem_erase_of_ne e).2 (hs y hy)
    have h4 := List.length_erase_of_mem h1
    have h5 := List.length_pos_of_mem h1
    omega
open Classical in
/-- is a value kept? -/
noncomputable def diffK (c : PCon) (D : List (List Int × Nat)) (a : Nat) (x : Int) : Bool :=
  decide ((∀ i, i < c.vars.length → St.leftOf (D.getD i ([], 0)) ≠ []) ∧ (∃ S : List Int, S.Nodup ∧ S.length = c.vars.length ∧ ∀ y ∈ S, ∃ i, i < c.vars.length ∧ y ∈ St.leftOf (D.getD i ([], 0))) ∧ ∀ k, k < c.vars.length → k ≠ a → St.leftOf (D.getD k ([], 0)) ≠ [x])
open Classical in
theorem diff_falls (c : PCon) : Falls diffK c := by
  intro D' D _ _ hs a ha x h
  obtain ⟨h1, ⟨S, s1, s2, s3⟩, h3⟩ := of_decide_eq_true h
  refine decide_eq_true ⟨fun i hi q => ?_, ⟨S, s1, s2, fun y hy => ?_⟩, fun k hk hka q => ?_⟩
  · obtain ⟨y, hy⟩ := List.exists_mem_of_ne_nil _ (h1 i hi)
    have := hs i hi y hy
    rw [q] at this
    cases this
  · obtain ⟨i, hi, hy⟩ := s3 y hy
    exact ⟨i, hi, hs i hi y hy⟩
  · refine h3 k hk hka (one_of (left_nodup _) (h1 k hk) fun y hy => ?_)
    have := hs k hk y hy
    rw [q] at this
    simpa using this
open Classical in
theorem diff_single {c : PCon} (hk : c.kind = 5) : Single diffK c := by
  intro row hrow a ha
  have hm : (c.vars.map (Gr.val row)).length = c.vars.length := List.length_map _
  have hH : Gr.holdsG c row = decide (c.vars.map (Gr.val row)).Nodup := by
    unfold Gr.holdsG
    rw [if_neg (by omega), if_neg (by omega), if_neg (by omega), if_neg (by omega), if_pos hk]
  have hd : ∀ i, i < c.vars.length → St.leftOf ((oneD row c.vars).getD i ([], 0)) = [Gr.val row (c.vars.getD i 0)] := fun i hi => by
    rw [oneD_get hi, left_one (Gr.val_small hrow _)]
  have hget : ∀ i (hi : i < (c.vars.map (Gr.val row)).length), (c.vars.map (Gr.val row))[i] = Gr.val row (c.vars.getD i 0) := fun i hi => by
    rw [List.getElem_map, List.getD_eq_getElem?_getD, List.getElem?_eq_getElem (by rw [hm] at hi; exact hi)]
    rfl
  rw [hH, Bool.eq_iff_iff]
  unfold diffK
  rw [decide_eq_true_eq, decide_eq_true_eq]
  constructor
  · rintro ⟨_, ⟨S, s1, s2, s3⟩, _⟩
    refine nodup_of s1 (by rw [hm]; exact s2) fun y hy => ?_
    obtain ⟨i, hi, h⟩ := s3 y hy
    rw [hd i hi] at h
    obtain rfl : y = Gr.val row (c.vars.getD i 0) := by simpa using h
    rw [← hget i (by rw [hm]; exact hi)]
    exact List.getElem_mem _
  · intro q
    refine ⟨fun i hi e => ?_, ⟨_, q, hm, fun y hy => ?_⟩, fun k hk2 hka e => ?_⟩
    · rw [hd i hi] at e
      cases e
    · obtain ⟨i, hi, rfl⟩ := List.getElem_of_mem hy
      refine ⟨i, by rw [hm] at hi; exact hi, ?_⟩
      rw [hd i (by rw [hm] at hi; exact hi), hget i hi]
      simp
    · rw [hd k hk2] at e
      have e2 : Gr.val row (c.vars.getD k 0) = Gr.val row (c.vars.getD a 0) := by simpa using e
      rw [← hget k (by rw [hm]; exact hk2), ← hget a (by rw [hm]; exact ha)] at e2
      have hp := List.pairwise_iff_getElem.1 q
      rcases Nat.lt_or_gt_of_ne hka with r | r
      · exact hp k a _ _ r e2
      · exact hp a k _ _ r e2.symm
end Go.Proofs.YtiaibggbbkhjlaaDoor.Ge
namespace Go.Proofs.YtiaibggbbkhjlaaDoor.Ge
open Go.RowKit St
set_option maxRecDepth 100000

theorem lefts_length (L : List (List Int × Nat)) : (leftsOf L).length = L.length := by simp [leftsOf]
theorem getL_set (M : List (List Int)) (y : Nat) (d : List Int) (i : Nat) : (M.set y d).getD i [] = if y = i ∧ y < M.length then d else M.getD i [] := by
  rw [List.getD_eq_getElem?_getD, List.getElem?_set]
  by_cases e : y = i
  · subst e
    by_cases hl : y < M.length
    · simp [hl]
    · simp [hl]
  · simp [e]
theorem setTo_at {M : List (List Int)} {vars : List Int} {f : Nat → List Int} (h : VarsTo vars (M.length : Int) vars.length) : ∀ {j a : Nat}, j ≤ vars.length → a < j → (setTo M vars f j).getD (vars.getD a 0).toNat [] = f a
  | 0, a, _, ha => by omega
  | j + 1, a, hj, ha => by
    rw [setTo_succ, getL_set, setTo_length]
    by_cases e : a = j
    · subst e
      rw [if_pos ⟨rfl, by have := (h a (by omega)).1; omega⟩]
    · rw [if_neg (fun q => vars_ne h (a := j) (b := a) (by omega) (by omega) (fun q => e q.symm) q.1)]
      exact setTo_at h (by omega) (by omega)
theorem setTo_off {M : List (List Int)} {vars : List Int} {f : Nat → List Int} {i : Nat} : ∀ {j : Nat}, (∀ a, a < j → (vars.getD a 0).toNat ≠ i) → (setTo M vars f j).getD i [] = M.getD i []
  | 0, _ => rfl
  | j + 1, h => by
    rw [setTo_succ, getL_set, if_neg (fun q => h j (Nat.lt_succ_self j) q.1)]
    exact setTo_off fun a ha => h a (by omega)
theorem lefts_getD (L : List (List Int × Nat)) (i : Nat) : (leftsOf L).getD i [] = St.leftOf (L.getD i ([], 0)) := by
  unfold leftsOf
  rw [List.getD_eq_getElem?_getD, List.getD_eq_getElem?_getD, List.getElem?_map]
  cases L[i]? <;> simp [St.leftOf, Dm.leftM, Dm.left, B.mem_none]
theorem keep_left {xs : List Int} {x : Nat} (h : Dm.mayL xs x = true) {l : List Int} (hl : ∀ y, y ∈ St.leftOf (xs, x) → y ∈ l) : Dm.keepN xs x (fun y => decide (y ∈ l)) = x := by
  refine B.same_bits (Dm.keep_lt _ _ _) (Dm.may_lt h) fun k hk => ?_
  rw [Dm.keep_bit _ _ _ _ hk]
  cases hb : x.testBit k
  · simp
  · have hkl := Dm.bit_len (Dm.may_iff.1 h).2.1 hb
    have hm : xs.getD k 0 ∈ l := hl _ (by
      show xs.getD k 0 ∈ Dm.leftM xs x
      unfold Dm.leftM
      rw [if_pos h]
      exact (Dm.left_mem h _).2 ⟨k, hkl, hb, rfl⟩)
    rw [decide_eq_true hkl, decide_eq_true hm]
    rfl
theorem keep_mem {xs : List Int} {x : Nat} (h : Dm.mayL xs x = true) {l : List Int} {p : Int → Bool} (hl : ∀ y, y ∈ St.leftOf (xs, x) → (y ∈ l ↔ p y = true)) : Dm.keepN xs x (fun y => decide (y ∈ l)) = Dm.keepN xs x p := by
  refine Dm.keep_congr fun k hk hb => ?_
  have := hl (xs.getD k 0) (by
      show xs.getD k 0 ∈ Dm.leftM xs x
      unfold Dm.leftM
      rw [if_pos h]
      exact (Dm.left_mem h _).2 ⟨k, hk, hb, rfl⟩)
  rw [Bool.eq_iff_iff]
  simpa using this
theorem keepOf_may {d : List Int × Nat} (h : Dm.mayL d.1 d.2 = true) (l : List Int) : keepOf d l = (d.1, Dm.keepN d.1 d.2 (fun y => decide (y ∈ l))) := by
  unfold keepOf Dm.keepX Dm.keepL
  rw [if_pos h, if_pos h]
theorem keepTo_getD {L : List (List Int × Nat)} {M : List (List Int)} {n i : Nat} (h : i < n) : (keepTo L M n).getD i ([], 0) = keepOf (L.getD i ([], 0)) (M.getD i []) := by
  unfold keepTo
  rw [List.getD_eq_getElem?_getD, List.getElem?_map, List.getElem?_range h]
  rfl
theorem ext_getD {A C : List (List Int × Nat)} (hl : A.length = C.length) (h : ∀ i, i < A.length → A.getD i ([], 0) = C.getD i ([], 0)) : A = C := by
  refine List.ext_getElem hl fun i h1 h2 => ?_
  have := h i h1
  rwa [List.getD_eq_getElem?_getD, List.getElem?_eq_getElem h1, List.getD_eq_getElem?_getD, List.getElem?_eq_getElem h2] at this

/-- the document's answer: of each variable of the constraint the rows that f tells -/
noncomputable def stepL (kinds : List Int) (c : PCon) (L : List (List Int × Nat)) (f : Nat → List Int) : List (List Int × Nat) × Int :=
  if rightS c L kinds = true then (keepTo L (setTo (leftsOf L) c.vars f c.vars.length) L.length, 0) else ([], 1)
theorem rightS_K (c : PCon) (L : List (List Int × Nat)) (kinds : List Int) : rightS c L kinds = rightK kinds c L := by
  unfold rightS rightK mayTo
  rw [inK_all, List.take_length]
  have e : (L.all fun d => Dm.mayL d.1 d.2) = !(L.any fun d => !Dm.mayL d.1 d.2) := by simp [List.all_eq_not_any_not]
  rw [e]
  cases decide (c.kind ∈ kinds) <;> cases (!(L.any fun d => !Dm.mayL d.1 d.2)) <;> cases rightC c L.length <;> rfl
theorem stepL_K {kinds : List Int} {Kp : PCon → List (List Int × Nat) → Nat → Int → Bool} {c : PCon} {L : List (List Int × Nat)} {f : Nat → List Int} (hf : rightK kinds c L = true → ∀ a, a < c.vars.length → ∀ y, y ∈ St.leftOf (L.getD (c.vars.getD a 0).toNat ([], 0)) → (y ∈ f a ↔ Kp c (domsOf L c.vars) a y = true)) : stepL kinds c L f = stepK kinds Kp c L := by
  unfold stepL stepK
  rw [rightS_K]
  cases hr : rightK kinds c L with
  | false => rw [if_neg Bool.false_ne_true, if_neg Bool.false_ne_true]
  | true =>
    rw [if_pos rfl, if_pos rfl]
    obtain ⟨_, hrc, hm⟩ := rightK_parts hr
    have hvt := vars_to hrc
    have hvm : VarsTo c.vars ((leftsOf L).length : Int) c.vars.length := by rw [lefts_length]; exact hvt
    refine congrArg (·, (0 : Int)) (ext_getD (by rw [stepTo_length, keepTo_length]) fun i hi => ?_)
    rw [keepTo_length] at hi
    have hmi := hm i hi
    rw [keepTo_getD hi, keepOf_may hmi]
    by_cases hv : ∃ a, a < c.vars.length ∧ (c.vars.getD a 0).toNat = i
    · obtain ⟨a, ha, rfl⟩ := hv
      rw [stepTo_at hvt (Nat.le_refl _) ha, setTo_at hvm (Nat.le_refl _) ha]
      exact congrArg ((L.getD (c.vars.getD a 0).toNat ([], 0)).1, ·) (keep_mem hmi fun y hy => hf hr a ha y hy)
    · have hoff : ∀ a, a < c.vars.length → (c.vars.getD a 0).toNat ≠ i := fun a ha e => hv ⟨a, ha, e⟩
      rw [stepTo_off hoff, setTo_off hoff, lefts_getD, keep_left hmi fun y hy => hy]
end Go.Proofs.YtiaibggbbkhjlaaDoor.Ge
namespace Go.Proofs.YtiaibggbbkhjlaaDoor.Ge.Di
open Go.RowKit St
set_option maxRecDepth 100000

/-- a value behind others, unless it is one of them -/
def addV (l : List Int) (v : Int) : List Int := if v ∈ l then l else l ++ [v]
def addAll (l m : List Int) : List Int := m.foldl addV l
/-- all values of the first j variables, each once -/
def unionTo (M : List (List Int)) (vars : List Int) (j : Nat) : List Int := (List.range j).foldl (fun l i => addAll l (M.getD (vars.getD i 0).toNat [])) []
theorem addV_mem {l : List Int} {v y : Int} : y ∈ addV l v ↔ y ∈ l ∨ y = v := by
  unfold addV
  split
  · rename_i h
    constructor
    · exact .inl
    · rintro (q | rfl)
      · exact q
      · exact h
  · simp
theorem addV_nodup {l : List Int} {v : Int} (h : l.Nodup) : (addV l v).Nodup := by
  unfold addV
  split
  · exact h
  · rename_i q
    refine List.nodup_append.2 ⟨h, by simp, fun a ha b hb => ?_⟩
    obtain rfl : b = v := by simpa using hb
    exact fun e => q (e ▸ ha)
theorem addV_len {l : List Int} {v : Int} : l.length ≤ (addV l v).length ∧ (addV l v).length ≤ l.length + 1 := by
  unfold addV
  split <;> simp
theorem addAll_step {l m : List Int} {k : Nat} (h : k < m.length) : addAll l (m.take (k + 1)) = addV (addAll l (m.take k)) (m.getD k 0) := by
  unfold addAll
  rw [List.take_succ_eq_append_getElem h, List.foldl_append]
  simp [List.getD, List.getElem?_eq_getElem h]
theorem addAll_mem {y : Int} : ∀ {m l : List Int}, y ∈ addAll l m ↔ y ∈ l ∨ y ∈ m
  | [], l => by simp [addAll]
  | v :: m, l => by
    show y ∈ addAll (addV l v) m ↔ _
    rw [addAll_mem, addV_mem, List.mem_cons]
    constructor
    · rintro ((h | h) | h)
      · exact .inl h
      · exact .inr (.inl h)
      · exact .inr (.inr h)
    · rintro (h | h | h)
      · exact .inl (.inl h)
      · exact .inl (.inr h)
      · exact .inr h
theorem addAll_nodup : ∀ {m l : List Int}, l.Nodup → (addAll l m).Nodup
  | [], _, h => h
  | v :: m, l, h => by
    show (addAll (addV l v) m).Nodup
    exact addAll_nodup (addV_nodup h)
theorem addAll_len : ∀ {m l : List Int}, (addAll l m).length ≤ l.length + m.length
  | [], _ => Nat.le_refl _
  | v :: m, l => by
    show (addAll (addV l v) m).length ≤ _
    have h1 := addAll_len (m := m) (l := addV l v)
    have h2 := (addV_len (l := l) (v := v)).2
    rw [List.length_cons]
    omega
theorem unionTo_succ {M : List (List Int)} {vars : List Int} {j : Nat} : unionTo M vars (j + 1) = addAll (unionTo M vars j) (M.getD (vars.getD j 0).toNat []) := by
  unfold unionTo
  rw [List.range_succ, List.foldl_append]
  rfl
theorem unionTo_mem {M : List (List Int)} {vars : List Int} {y : Int} : ∀ {j : Nat}, y ∈ unionTo M vars j ↔ ∃ i, i < j ∧ y ∈ M.getD (vars.getD i 0).toNat []
  | 0 => by simp [unionTo]
  | j + 1 => by
    rw [unionTo_succ, addAll_mem, unionTo_mem]
    constructor
    · rintro (⟨i, hi, h⟩ | h)
      · exact ⟨i, by omega, h⟩
      · exact ⟨j, by omega, h⟩
    · rintro ⟨i, hi, h⟩
      by_cases e : i = j
      · subst e; exact .inr h
      · exact .inl ⟨i, by omega, h⟩
theorem unionTo_nodup {M : List (List Int)} {vars : List Int} : ∀ {j : Nat}, (unionTo M vars j).Nodup
  | 0 => List.nodup_nil
  | j + 1 => by rw [unionTo_succ]; exact addAll_nodup unionTo_nodup
theorem unionTo_len {M : List (List Int)} {vars : List Int} (hM : ∀ l ∈ M, l.length ≤ 1000) : ∀ {j : Nat}, (unionTo M vars j).length ≤ j * 1000
  | 0 => by simp [unionTo]
  | j + 1 => by
    rw [unionTo_succ]
    have h1 := addAll_len (l := unionTo M vars j) (m := M.getD (vars.getD j 0).toNat [])
    have h2 := unionTo_len (M := M) (vars := vars) hM (j := j)
    have h3 : (M.getD (vars.getD j 0).toNat []).length ≤ 1000 := by
      by_cases h : (vars.getD j 0).toNat < M.length
      · exact hM _ (by rw [List.getD_eq_getElem?_getD, List.getElem?_eq_getElem h]; exact List.getElem_mem h)
      · rw [List.getD_eq_getElem?_getD, List.getElem?_eq_none (by omega)]; simp
    omega
/-- what is left of one where the only values of the first k others are taken -/
def lessTo (M : List (List Int)) (vars : List Int) (a : Nat) (k : Nat) : List Int := (List.range k).foldl (fun l i => if i ≠ a ∧ (M.getD (vars.getD i 0).toNat []).length = 1 then l.filter (fun x => !decide (x = (M.getD (vars.getD i 0).toNat []).getD 0 0)) else l) (M.getD (vars.getD a 0).toNat [])
theorem lessTo_succ {M : List (List Int)} {vars : List Int} {a k : Nat} : lessTo M vars a (k + 1) = if k ≠ a ∧ (M.getD (vars.getD k 0).toNat []).length = 1 then (lessTo M vars a k).filter (fun x => !decide (x = (M.getD (vars.getD k 0).toNat []).getD 0 0)) else lessTo M vars a k := by
  unfold lessTo
  rw [List.range_succ, List.foldl_append]
  rfl
theorem one_len {l : List Int} {x : Int} : l = [x] ↔ l.length = 1 ∧ l.getD 0 0 = x := by
  constructor
  · rintro rfl
    exact ⟨rfl, rfl⟩
  · rintro ⟨h, rfl⟩
    match l, h with
    | [y], _ => rfl
theorem lessTo_mem {M : List (List Int)} {vars : List Int} {a : Nat} {x : Int} : ∀ {k : Nat}, x ∈ lessTo M vars a k ↔ x ∈ M.getD (vars.getD a 0).toNat [] ∧ ∀ i, i < k → i ≠ a → M.getD (vars.getD i 0).toNat [] ≠ [x]
  | 0 => by simp [lessTo]
  | k + 1 => by
    rw [lessTo_succ]
    have key : (∀ i, i < k + 1 → i ≠ a → M.getD (vars.getD i 0).toNat [] ≠ [x]) ↔ (∀ i, i < k → i ≠ a → M.getD (vars.getD i 0).toNat [] ≠ [x]) ∧ (k ≠ a → M.getD (vars.getD k 0).toNat [] ≠ [x]) :=
      ⟨fun h => ⟨fun i hi => h i (by omega), h k (Nat.lt_succ_self _)⟩, fun h i hi => by
        by_cases e : i = k
        · subst e; exact h.2
        · exact h.1 i (by omega)⟩
    rw [key]
    split
    · rename_i q
      rw [List.mem_filter, lessTo_mem]
      constructor
      · rintro ⟨⟨h1, h2⟩, h3⟩
        refine ⟨h1, h2, fun _ e => ?_⟩
        have := (one_len.1 e).2
        rw [this, decide_eq_true rfl] at h3
        cases h3
      · rintro ⟨h1, h2, h3⟩
        refine ⟨⟨h1, h2⟩, ?_⟩
        have := h3 q.1
        rw [Ne, one_len] at this
        have h4 : ¬ (M.getD (vars.getD k 0).toNat []).getD 0 0 = x := fun e => this ⟨q.2, e⟩
        simpa using fun e => h4 e.symm
    · rename_i q
      rw [lessTo_mem]
      constructor
      · rintro ⟨h1, h2⟩
        exact ⟨h1, h2, fun h e => q ⟨h, (one_len.1 e).1⟩⟩
      · rintro ⟨h1, h2, _⟩
        exact ⟨h1, h2⟩
/-- of one variable: nothing, or what isn't the only one of another -/
def diffRow (M : List (List Int)) (c : PCon) (a : Nat) : List Int :=
  if wipeTo M c.vars c.vars.length = true ∨ (unionTo M c.vars c.vars.length).length < c.vars.length then [] else lessTo M c.vars a c.vars.length
theorem right_diff {c : PCon} {n : Int} (h : rightC c n = true) (hk : c.kind = 5) : 2 ≤ c.vars.length ∧ c.vars.length ≤ 8 := by
  rw [right_on (vars_to h), hk, if_neg (by decide), if_neg (by decide), Bool.and_eq_true] at h
  have h2 := h.2
  unfold kindR at h2
  rw [if_neg (by omega), if_neg (by omega), if_pos hk, Bool.and_eq_true, Bool.and_eq_true] at h2
  exact ⟨of_decide_eq_true h2.1, of_decide_eq_true h2.2.1⟩
/-- what a step of different values leaves -/
noncomputable def stepG (c : PCon) (L : List (List Int × Nat)) : List (List Int × Nat) × Int := stepK [5] diffK c L
theorem wipe_iff {M : List (List Int)} {vars : List Int} : wipeTo M vars vars.length = true ↔ ∃ i, i < vars.length ∧ M.getD (vars.getD i 0).toNat [] = [] := by
  unfold wipeTo
  rw [List.take_length, List.any_eq_true]
  constructor
  · rintro ⟨v, hv, h⟩
    obtain ⟨i, hi, rfl⟩ := List.getElem_of_mem hv
    refine ⟨i, hi, ?_⟩
    rw [List.getD_eq_getElem?_getD (l := vars), List.getElem?_eq_getElem hi]
    exact List.eq_nil_of_length_eq_zero (of_decide_eq_true h)
  · rintro ⟨i, hi, h⟩
    refine ⟨vars[i], List.getElem_mem hi, ?_⟩
    rw [List.getD_eq_getElem?_getD (l := vars), List.getElem?_eq_getElem hi] at h
    have h2 : M.getD (vars[i]).toNat [] = [] := h
    rw [h2]
    rfl
open Classical in
theorem stepL_G {c : PCon} {L : List (List Int × Nat)} : stepL [5] c L (diffRow (leftsOf L) c) = stepG c L := by
  refine stepL_K fun h a ha y hy => ?_
  unfold diffRow diffK
  rw [decide_eq_true_eq]
  have hd : ∀ i, i < c.vars.length → (domsOf L c.vars).getD i ([], 0) = L.getD (c.vars.getD i 0).toNat ([], 0) := fun i hi => doms_get hi
  have k1 : (∀ i, i < c.vars.length → St.leftOf ((domsOf L c.vars).getD i ([], 0)) ≠ []) ↔ ¬ wipeTo (leftsOf L) c.vars c.vars.length = true := by
    rw [wipe_iff]
    constructor
    · rintro q ⟨i, hi, e⟩
      rw [lefts_getD] at e
      exact q i hi (by rw [hd i hi]; exact e)
    · intro q i hi e
      rw [hd i hi] at e
      exact q ⟨i, hi, by rw [lefts_getD]; exact e⟩
  have k2 : (∃ S : List Int, S.Nodup ∧ S.length = c.vars.length ∧ ∀ y ∈ S, ∃ i, i < c.vars.length ∧ y ∈ St.leftOf ((domsOf L c.vars).getD i ([], 0))) ↔ ¬ (unionTo (leftsOf L) c.vars c.vars.length).length < c.vars.length := by
    constructor
    · rintro ⟨S, s1, s2, s3⟩ q
      have := short_of (l := unionTo (leftsOf L) c.vars c.vars.length) s1 fun z hz => by
        obtain ⟨i, hi, h2⟩ := s3 z hz
        rw [hd i hi] at h2
        exact unionTo_mem.2 ⟨i, hi, by rw [lefts_getD]; exact h2⟩
      omega
    · intro q
      refine ⟨(unionTo (leftsOf L) c.vars c.vars.length).take c.vars.length, unionTo_nodup.sublist (List.take_sublist _ _), by rw [List.length_take]; omega, fun z hz => ?_⟩
      obtain ⟨i, hi, h2⟩ := unionTo_mem.1 (List.mem_of_mem_take hz)
      rw [lefts_getD] at h2
      exact ⟨i, hi, by rw [hd i hi]; exact h2⟩
  have k3 : (∀ k, k < c.vars.length → k ≠ a → St.leftOf ((domsOf L c.vars).getD k ([], 0)) ≠ [y]) ↔ ∀ k, k < c.vars.length → k ≠ a → (leftsOf L).getD (c.vars.getD k 0).toNat [] ≠ [y] := by
    constructor
    · intro q k hk hka e
      rw [lefts_getD] at e
      exact q k hk hka (by rw [hd k hk]; exact e)
    · intro q k hk hka e
      rw [hd k hk] at e
      exact q k hk hka (by rw [lefts_getD]; exact e)
  rw [k1, k2, k3]
  split
  · rename_i q
    constructor
    · intro z; cases z
    · rintro ⟨h1, h2, _⟩
      rcases q with q | q
      · exact absurd q h1
      · exact absurd q h2
  · rename_i q
    rw [lessTo_mem, lefts_getD]
    exact ⟨fun z => ⟨fun w => q (.inl w), fun w => q (.inr w), z.2⟩, fun z => ⟨hy, z.2.2⟩⟩
/- what a step leaves, for the laws -/
section
variable {c : PCon} {L : List (List Int × Nat)} {row : List Int}
theorem stepG_rows (hm : ∀ d ∈ L, d.1.length ≤ 1000) : ∀ d ∈ (stepG c L).1, d.1.length ≤ 1000 := stepK_rows hm
theorem stepG_length (hn : L.length ≤ 1000) : (stepG c L).1.length ≤ 1000 := stepK_length hn
theorem stepG_off (h : rightK [5] c L = false) : stepG c L = ([], 1) := stepK_off h
theorem stepG_err (h : rightK [5] c L = true) : (stepG c L).2 = 0 := by show (stepK [5] diffK c L).2 = 0; rw [stepK_on h]
theorem stepG_same (h : rightK [5] c L = true) : (stepG c L).1.length = L.length := by show (stepK [5] diffK c L).1.length = _; rw [stepK_on h]; exact stepTo_length _ _ _ _
theorem diff_vars (h : rightK [5] c L = true) : c.kind = 5 ∧ 0 < c.vars.length := ⟨by simpa using (rightK_parts h).1, by have := (right_diff (rightK_parts h).2.1 (by simpa using (rightK_parts h).1)).1; omega⟩
theorem fallsG (ms : List Nat) (h : rightK [5] c L = true) : rightK [5] c (fewerL L ms) = true ∧ withinB (stepG c (fewerL L ms)).1 (stepG c L).1 = true := falls_law (diff_falls c) ms h
theorem withinG (h : rightK [5] c L = true) : withinB (stepG c L).1 L = true := within_law h
theorem soundG (h : rightK [5] c L = true) (hl : leftB row L = true) (hr : Gr.rightG [c] row = true) (hh : Gr.holdsG c row = true) : leftB row (stepG c L).1 = true :=
  sound_law (diff_falls c) (diff_single (diff_vars h).1) h hl hr hh
theorem singleG (hg : Gr.rightG [c] row = true) (h : rightK [5] c (singles row) = true) : allO (stepG c (singles row)).1 c.vars c.vars.length = Gr.holdsG c row :=
  single_law (diff_single (diff_vars h).1) (diff_vars h).2 hg h
end
end Go.Proofs.YtiaibggbbkhjlaaDoor.Ge.Di
namespace Go.Proofs.YtiaibggbbkhjlaaDoor.Ge.Di
open Go.RowKit St
set_option maxRecDepth 100000

/-- 1 of a domain of which one value is left, else 0 -/
def soleZ (d : List Int × Nat) : Int := if (St.leftOf d).length = 1 then 1 else 0
/-- all that is left of the first j domains, each once -/
def unD (D : List (List Int × Nat)) (j : Nat) : List Int := (List.range j).foldl (fun l i => addAll l (St.leftOf (D.getD i ([], 0)))) []
/-- of how many of the first j domains x is the only one -/
def cntD (D : List (List Int × Nat)) (j : Nat) (x : Int) : Int := ((((List.range j).filter fun i => decide (St.leftOf (D.getD i ([], 0)) = [x])).length : Nat) : Int)
/-- within one domain, behind k of its values -/
def cntI (l : List Int) (f : Int → Int) (k : Nat) (x : Int) : Int := f x + if l.length = 1 ∧ x ∈ l.take k then 1 else 0
theorem unD_succ {D : List (List Int × Nat)} {j : Nat} : unD D (j + 1) = addAll (unD D j) (St.leftOf (D.getD j ([], 0))) := by
  unfold unD
  rw [List.range_succ, List.foldl_append]
  rfl
theorem unD_mem {D : List (List Int × Nat)} {y : Int} : ∀ {j : Nat}, y ∈ unD D j ↔ ∃ i, i < j ∧ y ∈ St.leftOf (D.getD i ([], 0))
  | 0 => by simp [unD]
  | j + 1 => by
    rw [unD_succ, addAll_mem, unD_mem]
    constructor
    · rintro (⟨i, hi, h⟩ | h)
      · exact ⟨i, by omega, h⟩
      · exact ⟨j, by omega, h⟩
    · rintro ⟨i, hi, h⟩
      by_cases e : i = j
      · subst e; exact .inr h
      · exact .inl ⟨i, by omega, h⟩
theorem unD_nodup {D : List (List Int × Nat)} : ∀ {j : Nat}, (unD D j).Nodup
  | 0 => List.nodup_nil
  | j + 1 => by rw [unD_succ]; exact addAll_nodup unD_nodup
theorem unD_len {D : List (List Int × Nat)} (h : ∀ i, (St.leftOf (D.getD i ([], 0))).length ≤ 64) : ∀ {j : Nat}, (unD D j).length ≤ j * 64
  | 0 => by simp [unD]
  | j + 1 => by
    rw [unD_succ]
    have h1 := addAll_len (l := unD D j) (m := St.leftOf (D.getD j ([], 0)))
    have h2 := unD_len h (j := j)
    have h3 := h j
    omega
theorem cntD_zero {D : List (List Int × Nat)} : cntD D 0 = fun _ => 0 := rfl
theorem cntD_succ {D : List (List Int × Nat)} {j : Nat} {x : Int} : cntD D (j + 1) x = cntD D j x + if St.leftOf (D.getD j ([], 0)) = [x] then 1 else 0 := by
  unfold cntD
  rw [List.range_succ, List.filter_append, List.filter_cons, List.filter_nil, List.length_append]
  split
  · rename_i h
    rw [if_pos (of_decide_eq_true h)]
    simp
  · rename_i h
    rw [if_neg (fun e => h (decide_eq_true e))]
    simp
theorem cntD_bound {D : List (List Int × Nat)} {x : Int} : ∀ {j : Nat}, 0 ≤ cntD D j x ∧ cntD D j x ≤ j
  | 0 => by rw [cntD_zero]; exact ⟨Int.le_refl _, Int.le_refl _⟩
  | j + 1 => by
    have := cntD_bound (D := D) (x := x) (j := j)
    rw [cntD_succ]
    split <;> omega
theorem cntI_zero {l : List Int} {f : Int → Int} : cntI l f 0 = f := by funext x; simp [cntI]
theorem cntI_step {l : List Int} {f : Int → Int} {k : Nat} (h : k < l.length) : (fun y => if y = l.getD k 0 then cntI l f k (l.getD k 0) + (if l.length = 1 then 1 else 0) else cntI l f k y) = cntI l f (k + 1) := by
  funext y
  by_cases h1 : l.length = 1
  · obtain ⟨z, rfl⟩ := List.length_eq_one_iff.1 h1
    obtain rfl : k = 0 := by simp at h; omega
    simp [cntI]
    split <;> simp_all
  · simp only [cntI, if_neg h1, if_neg (fun q : _ ∧ _ => h1 q.1), Int.add_zero]
    split
    · rename_i e; rw [e]
    · rfl
theorem cntI_end {l : List Int} {f : Int → Int} {x : Int} : cntI l f l.length x = f x + if l = [x] then 1 else 0 := by
  unfold cntI
  rw [List.take_length]
  congr 1
  by_cases h1 : l.length = 1
  · obtain ⟨z, rfl⟩ := List.length_eq_one_iff.1 h1
    by_cases e : x = z
    · subst e; simp
    · rw [if_neg (fun q => e (by simpa using q.2)), if_neg (fun q => e (by simpa using q.symm))]
  · rw [if_neg (fun q => h1 q.1), if_neg (fun q => h1 (by rw [q]; rfl))]
theorem cntI_bound {l : List Int} {f : Int → Int} {k : Nat} {x : Int} : f x ≤ cntI l f k x ∧ cntI l f k x ≤ f x + 1 := by
  unfold cntI
  split <;> omega
/-- the others of which x is the only one -/
def othD (D : List (List Int × Nat)) (a j : Nat) (x : Int) : Nat := ((List.range j).filter fun i => decide (i ≠ a ∧ St.leftOf (D.getD i ([], 0)) = [x])).length
theorem othD_succ {D : List (List Int × Nat)} {a j : Nat} {x : Int} : othD D a (j + 1) x = othD D a j x + if j ≠ a ∧ St.leftOf (D.getD j ([], 0)) = [x] then 1 else 0 := by
  unfold othD
  rw [List.range_succ, List.filter_append, List.filter_cons, List.filter_nil, List.length_append]
  split
  · rename_i h
    rw [if_pos (of_decide_eq_true h)]
    simp
  · rename_i h
    rw [if_neg (fun e => h (decide_eq_true e))]
    simp
theorem cnt_split {D : List (List Int × Nat)} {a : Nat} {x : Int} : ∀ {j : Nat}, cntD D j x = (if a < j ∧ St.leftOf (D.getD a ([], 0)) = [x] then 1 else 0) + (othD D a j x : Nat)
  | 0 => by rw [if_neg (fun q => Nat.not_lt_zero _ q.1)]; rfl
  | j + 1 => by
    rw [cntD_succ, cnt_split (a := a), othD_succ]
    by_cases e : j = a
    · subst e
      by_cases q : St.leftOf (D.getD j ([], 0)) = [x]
      · rw [if_neg (fun z => Nat.lt_irrefl _ z.1), if_pos q, if_pos ⟨Nat.lt_succ_self _, q⟩, if_neg (fun z => z.1 rfl)]
        omega
      · rw [if_neg (fun z => q z.2), if_neg q, if_neg (fun z => q z.2), if_neg (fun z => q z.2)]
        omega
    · have e2 : (if a < j + 1 ∧ St.leftOf (D.getD a ([], 0)) = [x] then (1 : Int) else 0) = if a < j ∧ St.leftOf (D.getD a ([], 0)) = [x] then 1 else 0 := by
        by_cases r : a < j
        · by_cases q : St.leftOf (D.getD a ([], 0)) = [x]
          · rw [if_pos ⟨by omega, q⟩, if_pos ⟨r, q⟩]
          · rw [if_neg (fun z => q z.2), if_neg (fun z => q z.2)]
        · rw [if_neg (fun z => by omega), if_neg (fun z => r z.1)]
      have e3 : (if j ≠ a ∧ St.leftOf (D.getD j ([], 0)) = [x] then 1 else 0) = if St.leftOf (D.getD j ([], 0)) = [x] then 1 else 0 := by
        by_cases q : St.leftOf (D.getD j ([], 0)) = [x]
        · rw [if_pos ⟨e, q⟩, if_pos q]
        · rw [if_neg (fun z => q z.2), if_neg q]
      rw [e2, e3]
      split <;> split <;> omega
theorem oth_none {D : List (List Int × Nat)} {a j : Nat} {x : Int} : othD D a j x = 0 ↔ ∀ k, k < j → k ≠ a → St.leftOf (D.getD k ([], 0)) ≠ [x] := by
  unfold othD
  rw [List.length_eq_zero_iff, List.filter_eq_nil_iff]
  constructor
  · intro h k hk hka q
    exact h k (List.mem_range.2 hk) (decide_eq_true ⟨hka, q⟩)
  · intro h k hk q
    have := of_decide_eq_true q
    exact h k (List.mem_range.1 hk) this.1 this.2
/-- is a value of domain a kept? -/
def keepsB (D : List (List Int × Nat)) (one : Int) (y : Int) : Bool := (decide ((D.length : Int) ≤ ((unD D D.length).length : Nat)) && !(D.any fun d => decide ((St.leftOf d).length = 0))) && decide (cntD D D.length y = one)
theorem any_none {D : List (List Int × Nat)} : (D.any fun d => decide ((St.leftOf d).length = 0)) = false ↔ ∀ i, i < D.length → St.leftOf (D.getD i ([], 0)) ≠ [] := by
  rw [List.any_eq_false]
  constructor
  · intro h i hi e
    have := h _ (List.getElem_mem hi)
    rw [List.getD_eq_getElem?_getD, List.getElem?_eq_getElem hi] at e
    exact this (decide_eq_true (by rw [show St.leftOf D[i] = [] from e]; rfl))
  · intro h d hd q
    obtain ⟨i, hi, rfl⟩ := List.getElem_of_mem hd
    refine h i hi ?_
    rw [List.getD_eq_getElem?_getD, List.getElem?_eq_getElem hi]
    exact List.length_eq_zero_iff.1 (of_decide_eq_true q)
theorem sole_mem {d : List Int × Nat} {y : Int} (h : y ∈ St.leftOf d) : soleZ d = if St.leftOf d = [y] then 1 else 0 := by
  unfold soleZ
  by_cases q : (St.leftOf d).length = 1
  · obtain ⟨z, hz⟩ := List.length_eq_one_iff.1 q
    rw [hz] at h ⊢
    obtain rfl : y = z := by simpa using h
    simp
  · rw [if_neg q, if_neg (fun e => q (by rw [e]; rfl))]
open Classical in
theorem keeps_diff {c : PCon} {D : List (List Int × Nat)} (hD : D.length = c.vars.length) {a : Nat} (ha : a < c.vars.length) {y : Int} (hy : y ∈ St.leftOf (D.getD a ([], 0))) : keepsB D (soleZ (D.getD a ([], 0))) y = diffK c D a y := by
  unfold keepsB diffK
  rw [← hD, Bool.eq_iff_iff, Bool.and_eq_true, Bool.and_eq_true, decide_eq_true_eq, decide_eq_true_eq, decide_eq_true_eq, Bool.not_eq_true', any_none, sole_mem hy, cnt_split (a := a)]
  have k2 : (∃ S : List Int, S.Nodup ∧ S.length = D.length ∧ ∀ y ∈ S, ∃ i, i < D.length ∧ y ∈ St.leftOf (D.getD i ([], 0))) ↔ (D.length : Int) ≤ ((unD D D.length).length : Nat) := by
    constructor
    · rintro ⟨S, s1, s2, s3⟩
      have := short_of (l := unD D D.length) s1 fun z hz => unD_mem.2 (s3 z hz)
      omega
    · intro q
      exact ⟨(unD D D.length).take D.length, unD_nodup.sublist (List.take_sublist _ _), by rw [List.length_take]; omega, fun z hz => unD_mem.1 (List.mem_of_mem_take hz)⟩
  rw [k2, ← oth_none (a := a) (j := D.length)]
  have e : (if a < D.length ∧ St.leftOf (D.getD a ([], 0)) = [y] then (1 : Int) else 0) = if St.leftOf (D.getD a ([], 0)) = [y] then 1 else 0 := by
    by_cases q : St.leftOf (D.getD a ([], 0)) = [y]
    · rw [if_pos ⟨by omega, q⟩, if_pos q]
    · rw [if_neg (fun z => q z.2), if_neg q]
  rw [e]
  constructor
  · rintro ⟨⟨h1, h2⟩, h3⟩
    exact ⟨h2, h1, by omega⟩
  · rintro ⟨h1, h2, h3⟩
    exact ⟨⟨h2, h1⟩, by omega⟩
open Classical in
/-- what is kept of the domain at a, by counting -/
theorem keep_diff {c : PCon} {D : List (List Int × Nat)} (hD : D.length = c.vars.length) {a : Nat} (ha : a < c.vars.length) (hm : Dm.mayL (D.getD a ([], 0)).1 (D.getD a ([], 0)).2 = true) :
    Dm.keepN (D.getD a ([], 0)).1 (D.getD a ([], 0)).2 (keepsB D (soleZ (D.getD a ([], 0)))) = Dm.keepN (D.getD a ([], 0)).1 (D.getD a ([], 0)).2 (diffK c D a) :=
  Dm.keep_congr fun k hk hb => keeps_diff hD ha ((left_iff hm _).2 ⟨k, hk, hb, rfl⟩)
end Go.Proofs.YtiaibggbbkhjlaaDoor.Ge.Di
