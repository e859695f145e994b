/-
  What is true of lists of spans by themselves: which numbers they have, how many, where each stands; that numbers make one right list alone.
-/
namespace Go.Proofs.YtiaibggbbkhjlaaDoor

/-- right, where no number is below m -/
def rightF : Int → List (Int × Int) → Bool
  | _, [] => true
  | m, s :: r => decide (m ≤ s.1) && decide (s.1 ≤ s.2) && decide (s.2 ≤ 1048576) && rightF (s.2 + 2) r
def rightL (L : List (Int × Int)) : Bool := rightF (-1048576) L
def inL : List (Int × Int) → Int → Bool
  | [], _ => false
  | s :: r, v => (decide (s.1 ≤ v) && decide (v ≤ s.2)) || inL r v
def sizeL : List (Int × Int) → Int
  | [] => 0
  | s :: r => s.2 - s.1 + 1 + sizeL r
def atL : List (Int × Int) → Int → Option Int
  | [], _ => none
  | s :: r, k => if k < s.2 - s.1 + 1 then some (s.1 + k) else atL r (k - (s.2 - s.1 + 1))
def placeF : Int → List (Int × Int) → Int → Int
  | _, [], _ => -1
  | a, s :: r, v => if s.1 ≤ v ∧ v ≤ s.2 then a + v - s.1 else placeF (a + (s.2 - s.1 + 1)) r v
/-- the document's way to the place -/
def refF : Int → List (Int × Int) → Int → Int
  | a, [], _ => a
  | a, s :: r, v => if s.2 < v then refF (a + s.2 + 1 - s.1) r v else if s.1 ≤ v then refF (a + v - s.1) r v else refF a r v

theorem right_cons {m : Int} {s : Int × Int} {r : List (Int × Int)} : rightF m (s :: r) = true ↔ m ≤ s.1 ∧ s.1 ≤ s.2 ∧ s.2 ≤ 1048576 ∧ rightF (s.2 + 2) r = true := by
  simp [rightF, and_assoc]
theorem in_cons {s : Int × Int} {r : List (Int × Int)} {v : Int} : inL (s :: r) v = true ↔ (s.1 ≤ v ∧ v ≤ s.2) ∨ inL r v = true := by
  simp [inL]
theorem in_cons_false {s : Int × Int} {r : List (Int × Int)} {v : Int} : inL (s :: r) v = false ↔ (s.1 ≤ v → s.2 < v) ∧ inL r v = false := by
  simp [inL]

theorem in_low : ∀ {L : List (Int × Int)} {m v : Int}, rightF m L = true → inL L v = true → m ≤ v ∧ v ≤ 1048576
  | [], _, _, _, h => by simp [inL] at h
  | s :: r, m, v, hr, h => by
    obtain ⟨h1, h2, h3, h4⟩ := right_cons.1 hr
    rcases in_cons.1 h with h | h
    · omega
    · have := in_low h4 h
      omega
theorem in_out {L : List (Int × Int)} {m v : Int} (hr : rightF m L = true) (h : v < m ∨ 1048576 < v) : inL L v = false := by
  cases e : inL L v
  · rfl
  · have := in_low hr e
    omega

theorem size_bound : ∀ {L : List (Int × Int)} {m : Int}, rightF m L = true → 0 ≤ sizeL L ∧ (L = [] ∨ sizeL L ≤ 1048576 + 1 - m)
  | [], _, _ => by simp [sizeL]
  | s :: r, m, hr => by
    obtain ⟨h1, h2, h3, h4⟩ := right_cons.1 hr
    obtain ⟨i1, i2⟩ := size_bound h4
    refine ⟨by simp only [sizeL]; omega, .inr ?_⟩
    simp only [sizeL]
    rcases i2 with rfl | i2
    · simp only [sizeL]; omega
    · omega
theorem size_most {L : List (Int × Int)} (h : rightL L = true) : 0 ≤ sizeL L ∧ sizeL L ≤ 2097153 := by
  obtain ⟨h1, h2⟩ := size_bound h
  rcases h2 with rfl | h2
  · simp [sizeL]
  · omega

theorem uniq : ∀ {A B : List (Int × Int)} {m n : Int}, rightF m A = true → rightF n B = true → (∀ v, inL A v = inL B v) → A = B
  | [], [], _, _, _, _, _ => rfl
  | [], t :: q, _, _, _, hb, h => by
    obtain ⟨h1, h2, h3, h4⟩ := right_cons.1 hb
    have := h t.1
    have : inL (t :: q) t.1 = true := in_cons.2 (.inl ⟨by omega, h2⟩)
    simp_all [inL]
  | s :: r, [], _, _, ha, _, h => by
    obtain ⟨h1, h2, h3, h4⟩ := right_cons.1 ha
    have := h s.1
    have : inL (s :: r) s.1 = true := in_cons.2 (.inl ⟨by omega, h2⟩)
    simp_all [inL]
  | s :: r, t :: q, m, n, ha, hb, h => by
    obtain ⟨a1, a2, a3, a4⟩ := right_cons.1 ha
    obtain ⟨b1, b2, b3, b4⟩ := right_cons.1 hb
    have e1 : t.1 ≤ s.1 := by
      have h1 : inL (t :: q) s.1 = true := by rw [← h]; exact in_cons.2 (.inl ⟨by omega, a2⟩)
      rcases in_cons.1 h1 with h1 | h1
      · exact h1.1
      · have := in_low b4 h1; omega
    have e2 : s.1 ≤ t.1 := by
      have h1 : inL (s :: r) t.1 = true := by rw [h]; exact in_cons.2 (.inl ⟨by omega, b2⟩)
      rcases in_cons.1 h1 with h1 | h1
      · exact h1.1
      · have := in_low a4 h1; omega
    have e3 : t.2 ≤ s.2 := by
      have h0 : inL (s :: r) (s.2 + 1) = false := in_cons_false.2 ⟨fun _ => by omega, in_out a4 (by omega)⟩
      rw [h] at h0
      have := (in_cons_false.1 h0).1 (by omega)
      omega
    have e4 : s.2 ≤ t.2 := by
      have h0 : inL (t :: q) (t.2 + 1) = false := in_cons_false.2 ⟨fun _ => by omega, in_out b4 (by omega)⟩
      rw [← h] at h0
      have := (in_cons_false.1 h0).1 (by omega)
      omega
    have e : s = t := Prod.ext (by omega) (by omega)
    subst e
    have hr : r = q := by
      refine uniq a4 b4 fun v => ?_
      by_cases hv : v ≤ s.2
      · rw [in_out a4 (by omega), in_out b4 (by omega)]
      · have := h v
        simp only [inL] at this
        have hd : decide (v ≤ s.2) = false := by simp; omega
        simpa [hd] using this
    rw [hr]

theorem one {A B : List (Int × Int)} (ha : rightL A = true) (hb : rightL B = true) (h : ∀ v, inL A v = inL B v) : A = B := uniq ha hb h

/- places -/
theorem ref_low : ∀ {L : List (Int × Int)} {m a v : Int}, rightF m L = true → v < m → refF a L v = a
  | [], _, _, _, _, _ => rfl
  | s :: r, m, a, v, hr, hv => by
    obtain ⟨h1, h2, h3, h4⟩ := right_cons.1 hr
    rw [refF, if_neg (by omega), if_neg (by omega)]
    exact ref_low h4 (by omega)
theorem ref_place : ∀ {L : List (Int × Int)} {m a v : Int}, rightF m L = true → inL L v = true → refF a L v = placeF a L v
  | [], _, _, _, _, h => by simp [inL] at h
  | s :: r, m, a, v, hr, h => by
    obtain ⟨h1, h2, h3, h4⟩ := right_cons.1 hr
    rcases in_cons.1 h with h | h
    · rw [refF, placeF, if_neg (by omega), if_pos (by omega), if_pos (by omega)]
      exact ref_low h4 (by omega)
    · have := in_low h4 h
      rw [refF, placeF, if_pos (by omega), if_neg (by omega)]
      have e : a + s.2 + 1 - s.1 = a + (s.2 - s.1 + 1) := by omega
      rw [e]
      exact ref_place h4 h
theorem place_none : ∀ {L : List (Int × Int)} {a v : Int}, inL L v = false → placeF a L v = -1
  | [], _, _, _ => rfl
  | s :: r, a, v, h => by
    obtain ⟨h1, h2⟩ := in_cons_false.1 h
    rw [placeF, if_neg (by omega)]
    exact place_none h2
theorem place_some : ∀ {L : List (Int × Int)} {m a v : Int}, rightF m L = true → inL L v = true → a ≤ placeF a L v
  | [], _, _, _, _, h => by simp [inL] at h
  | s :: r, m, a, v, hr, h => by
    obtain ⟨h1, h2, h3, h4⟩ := right_cons.1 hr
    rw [placeF]
    split
    · omega
    · rename_i hn
      rcases in_cons.1 h with h | h
      · omega
      · have := place_some (a := a + (s.2 - s.1 + 1)) h4 h
        omega
theorem at_place : ∀ {L : List (Int × Int)} {m a k v : Int}, rightF m L = true → 0 ≤ k → atL L k = some v → inL L v = true ∧ placeF a L v = a + k
  | [], _, _, _, _, _, _, h => by simp [atL] at h
  | s :: r, m, a, k, v, hr, hk, h => by
    obtain ⟨h1, h2, h3, h4⟩ := right_cons.1 hr
    rw [atL] at h
    split at h
    · have e : s.1 + k = v := by simpa using h
      exact ⟨in_cons.2 (.inl (by omega)), by rw [placeF, if_pos (by omega)]; omega⟩
    · obtain ⟨i1, i2⟩ := at_place (a := a + (s.2 - s.1 + 1)) h4 (by omega) h
      have := in_low h4 i1
      exact ⟨in_cons.2 (.inr i1), by rw [placeF, if_neg (by omega), i2]; omega⟩
theorem at_some : ∀ {L : List (Int × Int)} {m k : Int}, rightF m L = true → 0 ≤ k → (atL L k).isSome = decide (k < sizeL L)
  | [], _, k, _, hk => by
    rw [atL, sizeL, decide_eq_false (by omega)]
    rfl
  | s :: r, m, k, hr, hk => by
    obtain ⟨h1, h2, h3, h4⟩ := right_cons.1 hr
    have hb := (size_bound h4).1
    rw [atL]
    split
    · rw [sizeL, decide_eq_true (by omega)]
      rfl
    · rw [at_some h4 (by omega), sizeL, Bool.eq_iff_iff]
      simp only [decide_eq_true_eq]
      omega

/- all numbers of a list -/
def run (a : Int) (n : Nat) : List Int := (List.range n).map fun k : Nat => a + k
def valuesL : List (Int × Int) → List Int
  | [] => []
  | s :: r => run s.1 (s.2 + 1 - s.1).toNat ++ valuesL r
theorem run_mem {a v : Int} {n : Nat} : v ∈ run a n ↔ a ≤ v ∧ v < a + n := by
  unfold run
  rw [List.mem_map]
  constructor
  · rintro ⟨k, hk, rfl⟩
    have := List.mem_range.1 hk
    omega
  · intro h
    exact ⟨(v - a).toNat, List.mem_range.2 (by omega), by omega⟩
theorem run_length (a : Int) (n : Nat) : (run a n).length = n := by simp [run]
theorem run_succ (a : Int) (n : Nat) : run a (n + 1) = run a n ++ [a + n] := by simp [run, List.range_succ]
theorem values_mem : ∀ {L : List (Int × Int)} {v : Int}, v ∈ valuesL L ↔ inL L v = true
  | [], v => by simp [valuesL, inL]
  | s :: r, v => by
    rw [valuesL, List.mem_append, run_mem, in_cons, values_mem]
    refine or_congr ?_ Iff.rfl
    omega
theorem values_length : ∀ {L : List (Int × Int)} {m : Int}, rightF m L = true → ((valuesL L).length : Int) = sizeL L
  | [], _, _ => rfl
  | s :: r, m, hr => by
    obtain ⟨h1, h2, h3, h4⟩ := right_cons.1 hr
    have := values_length h4
    rw [valuesL, List.length_append, run_length, sizeL]
    omega
theorem values_at : ∀ {L : List (Int × Int)} {m : Int} {k : Nat}, rightF m L = true → atL L k = (valuesL L)[k]?
  | [], _, _, _ => rfl
  | s :: r, m, k, hr => by
    obtain ⟨h1, h2, h3, h4⟩ := right_cons.1 hr
    rw [atL, valuesL]
    split
    · rw [List.getElem?_append_left (by rw [run_length]; omega), run, List.getElem?_map, List.getElem?_range (by omega)]
      rfl
    · rw [List.getElem?_append_right (by rw [run_length]; omega), run_length, ← values_at h4]
      congr 1
      omega

/- how many, counted -/
def cnt (p : Int → Bool) (lo : Int) : Nat → Int
  | 0 => 0
  | n + 1 => cnt p lo n + if p (lo + n) = true then 1 else 0
theorem cnt_none {p : Int → Bool} {lo : Int} : ∀ {n : Nat}, (∀ v, lo ≤ v → v < lo + n → p v = false) → cnt p lo n = 0
  | 0, _ => rfl
  | n + 1, h => by
    rw [cnt, cnt_none (fun v h1 h2 => h v h1 (by omega)), h (lo + n) (by omega) (by omega)]
    rfl
theorem cnt_all {p : Int → Bool} {lo : Int} : ∀ {n : Nat}, (∀ v, lo ≤ v → v < lo + n → p v = true) → cnt p lo n = n
  | 0, _ => rfl
  | n + 1, h => by
    rw [cnt, cnt_all (fun v h1 h2 => h v h1 (by omega)), h (lo + n) (by omega) (by omega)]
    simp
theorem cnt_same {p q : Int → Bool} {lo : Int} : ∀ {n : Nat}, (∀ v, lo ≤ v → v < lo + n → p v = q v) → cnt p lo n = cnt q lo n
  | 0, _ => rfl
  | n + 1, h => by
    rw [cnt, cnt, cnt_same (fun v h1 h2 => h v h1 (by omega)), h (lo + n) (by omega) (by omega)]
theorem cnt_add (p : Int → Bool) (lo : Int) (a : Nat) : ∀ b : Nat, cnt p lo (a + b) = cnt p lo a + cnt p (lo + a) b
  | 0 => by simp [cnt]
  | b + 1 => by
    rw [← Nat.add_assoc, cnt, cnt, cnt_add p lo a b]
    have e : lo + ((a + b : Nat) : Int) = lo + a + b := by omega
    rw [e]
    omega
theorem size_cnt : ∀ {L : List (Int × Int)} {m : Int} {n : Nat}, rightF m L = true → m + n = 1048577 → sizeL L = cnt (inL L) m n
  | [], m, n, _, _ => (cnt_none (p := inL []) (lo := m) (n := n) (fun v _ _ => rfl)).symm
  | s :: r, m, n, hr, hn => by
    obtain ⟨h1, h2, h3, h4⟩ := right_cons.1 hr
    obtain ⟨x, hx⟩ : ∃ x : Nat, m + x = s.1 := ⟨(s.1 - m).toNat, by omega⟩
    obtain ⟨y, hy⟩ : ∃ y : Nat, s.1 + y = s.2 + 1 := ⟨(s.2 + 1 - s.1).toNat, by omega⟩
    obtain ⟨z, hz⟩ : ∃ z : Nat, s.2 + 1 + z = 1048577 := ⟨(1048576 - s.2).toNat, by omega⟩
    have en : n = x + (y + z) := by omega
    subst en
    rw [cnt_add, cnt_add, hx, hy]
    have c1 : cnt (inL (s :: r)) m x = 0 := cnt_none fun v v1 v2 => in_cons_false.2 ⟨fun _ => by omega, in_out h4 (by omega)⟩
    have c2 : cnt (inL (s :: r)) s.1 y = y := cnt_all fun v v1 v2 => in_cons.2 (.inl (by omega))
    have c3 : cnt (inL (s :: r)) (s.2 + 1) z = sizeL r := by
      cases z with
      | zero =>
        cases r with
        | nil => rfl
        | cons t q =>
          obtain ⟨g1, g2, g3, g4⟩ := right_cons.1 h4
          omega
      | succ z =>
        rw [Nat.add_comm, cnt_add, cnt_none (n := 1) (fun v v1 v2 => in_cons_false.2 ⟨fun _ => by omega, in_out h4 (by omega)⟩)]
        have e : s.2 + 1 + ((1 : Nat) : Int) = s.2 + 2 := by omega
        rw [e, size_cnt (n := z) h4 (by omega), Int.zero_add]
        refine cnt_same fun v v1 v2 => ?_
        rw [Bool.eq_iff_iff, in_cons]
        constructor
        · rintro (h | h)
          · omega
          · exact h
        · exact .inr
    rw [c1, c2, c3, sizeL]
    omega
theorem size_sets {A B U N D : List (Int × Int)} (ha : rightL A = true) (hb : rightL B = true) (hu : rightL U = true) (hn : rightL N = true) (hd : rightL D = true)
    (iu : ∀ v, inL U v = (inL A v || inL B v)) (iN : ∀ v, inL N v = (inL A v && inL B v)) (id : ∀ v, inL D v = (inL A v && !inL B v)) :
    sizeL U = sizeL A + sizeL B - sizeL N ∧ sizeL D = sizeL A - sizeL N := by
  have hm : (-1048576 : Int) + (2097153 : Nat) = 1048577 := by omega
  rw [size_cnt ha hm, size_cnt hb hm, size_cnt hu hm, size_cnt hn hm, size_cnt hd hm]
  clear hm ha hb hu hn hd
  generalize (2097153 : Nat) = n
  induction n with
  | zero => exact ⟨rfl, rfl⟩
  | succ n ih =>
    simp only [cnt]
    generalize (-1048576 : Int) + (n : Int) = v
    obtain ⟨i1, i2⟩ := ih
    have h1 := iu v
    have h2 := iN v
    have h3 := id v
    rw [h1, h2, h3]
    cases inL A v <;> cases inL B v <;> simp <;> omega

/- a span more at the end -/
def lst : Int → List (Int × Int) → Int
  | m, [] => m
  | _, s :: r => lst (s.2 + 2) r
theorem lst_snoc : ∀ (A : List (Int × Int)) (m : Int) (s : Int × Int), lst m (A ++ [s]) = s.2 + 2
  | [], _, _ => rfl
  | _ :: r, _, s => lst_snoc r _ s
theorem right_snoc : ∀ {A : List (Int × Int)} {m : Int} {s : Int × Int}, rightF m (A ++ [s]) = true ↔ rightF m A = true ∧ lst m A ≤ s.1 ∧ s.1 ≤ s.2 ∧ s.2 ≤ 1048576
  | [], m, s => by
    rw [List.nil_append, right_cons]
    simp [rightF, lst]
  | t :: r, m, s => by
    rw [List.cons_append, right_cons, right_cons, right_snoc, lst]
    simp only [and_assoc]
theorem in_snoc : ∀ {A : List (Int × Int)} {s : Int × Int} {v : Int}, inL (A ++ [s]) v = (inL A v || (decide (s.1 ≤ v) && decide (v ≤ s.2)))
  | [], _, _ => by simp [inL]
  | t :: r, s, v => by rw [List.cons_append, inL, inL, in_snoc, Bool.or_assoc]
theorem in_lst : ∀ {A : List (Int × Int)} {m v : Int}, rightF m A = true → inL A v = true → v + 2 ≤ lst m A
  | [], _, _, _, h => by simp [inL] at h
  | s :: r, m, v, hr, h => by
    obtain ⟨h1, h2, h3, h4⟩ := right_cons.1 hr
    rw [lst]
    have mono : ∀ {A : List (Int × Int)} {m : Int}, rightF m A = true → m ≤ lst m A := by
      intro A
      induction A with
      | nil => intro m _; exact Int.le_refl _
      | cons t q ih =>
        intro m hq
        obtain ⟨g1, g2, g3, g4⟩ := right_cons.1 hq
        have := ih g4
        rw [lst]
        omega
    rcases in_cons.1 h with h | h
    · have := mono h4
      omega
    · exact in_lst h4 h

/-- one number more, where none that is there is greater -/
def step (A : List (Int × Int)) (v : Int) : List (Int × Int) :=
  match A.getLast? with
  | none => [(v, v)]
  | some s => if v ≤ s.2 + 1 then A.dropLast ++ [(s.1, v)] else A ++ [(v, v)]
theorem last_split {A : List (Int × Int)} (h : A ≠ []) : ∃ B s, A = B ++ [s] := ⟨A.dropLast, A.getLast h, (List.dropLast_concat_getLast h).symm⟩
theorem step_snoc (B : List (Int × Int)) (s : Int × Int) (v : Int) : step (B ++ [s]) v = if v ≤ s.2 + 1 then B ++ [(s.1, v)] else B ++ [s] ++ [(v, v)] := by
  unfold step
  rw [List.getLast?_append]
  simp
theorem step_nil (v : Int) : step [] v = [(v, v)] := rfl
/-- right; its numbers are those of which p tells; none is above t, and t is its last, if it has one -/
structure Built (A : List (Int × Int)) (p : Int → Prop) (t : Int) : Prop where
  right : rightL A = true
  has : ∀ v, inL A v = true ↔ p v
  last : ∀ B s, A = B ++ [s] → s.2 = t
theorem step_built {A : List (Int × Int)} {p q : Int → Prop} {t v : Int} (h : Built A p t) (hv : A ≠ [] → t ≤ v) (h1 : -1048576 ≤ v) (h2 : v ≤ 1048576) (hq : ∀ x, q x ↔ p x ∨ x = v) : Built (step A v) q v := by
  by_cases e : A = []
  · subst e
    refine ⟨?_, fun x => ?_, fun B s hs => ?_⟩
    · rw [step_nil, rightL, right_cons]
      exact ⟨h1, Int.le_refl _, h2, rfl⟩
    · rw [step_nil, in_cons, hq, ← h.has]
      simp [inL]
      omega
    · rw [step_nil] at hs
      have := congrArg List.getLast? hs
      simp at this
      rw [← this]
  · obtain ⟨B, s, rfl⟩ := last_split e
    have ht := h.last B s rfl
    have hr := h.right
    rw [rightL, right_snoc] at hr
    obtain ⟨r1, r2, r3, r4⟩ := hr
    have hv := hv e
    rw [step_snoc]
    split
    · rename_i hle
      refine ⟨?_, fun x => ?_, fun B' s' hs => ?_⟩
      · rw [rightL, right_snoc]
        exact ⟨r1, r2, by simp only []; omega, h2⟩
      · rw [hq, ← h.has, in_snoc, in_snoc]
        simp only [Bool.or_eq_true, Bool.and_eq_true, decide_eq_true_eq]
        constructor
        · rintro (h | h)
          · exact .inl (.inl h)
          · by_cases hx : x = v
            · exact .inr hx
            · exact .inl (.inr (by omega))
        · rintro ((h | h) | h)
          · exact .inl h
          · exact .inr (by omega)
          · exact .inr (by omega)
      · have := congrArg List.getLast? hs
        simp at this
        rw [← this]
    · rename_i hgt
      refine ⟨?_, fun x => ?_, fun B' s' hs => ?_⟩
      · rw [rightL, right_snoc, lst_snoc, right_snoc]
        exact ⟨⟨r1, r2, r3, r4⟩, by simp only []; omega, Int.le_refl _, h2⟩
      · rw [hq, ← h.has, in_snoc (s := (v, v))]
        simp only [Bool.or_eq_true, Bool.and_eq_true, decide_eq_true_eq]
        refine or_congr Iff.rfl ?_
        omega
      · have := congrArg List.getLast? hs
        simp at this
        rw [← this]

/- the ends of a list -/
def endL : List (Int × Int) → Nat → Int
  | [], _ => 9223372036854775807
  | s :: _, 0 => s.1
  | s :: _, 1 => s.2 + 1
  | _ :: r, i + 2 => endL r i
def odd (i : Nat) : Bool := i % 2 == 1
theorem end_eq : ∀ (L : List (Int × Int)) (i : Nat), endL L i = if i / 2 < L.length then (if odd i then (L.getD (i / 2) (0, 0)).2 + 1 else (L.getD (i / 2) (0, 0)).1) else 9223372036854775807
  | [], i => by simp [endL]
  | s :: r, 0 => by simp [endL, odd]
  | s :: r, 1 => by simp [endL, odd]
  | s :: r, i + 2 => by
    rw [endL, end_eq r i]
    have e : (i + 2) / 2 = i / 2 + 1 := by omega
    have o : odd (i + 2) = odd i := by unfold odd; congr 1; omega
    rw [e, o]
    simp
theorem end_low : ∀ {L : List (Int × Int)} {m : Int} {i : Nat}, rightF m L = true → m ≤ 1048578 → m ≤ endL L i
  | [], m, i, _, hm => by rw [endL]; omega
  | s :: r, m, 0, hr, hm => (right_cons.1 hr).1
  | s :: r, m, 1, hr, hm => by obtain ⟨h1, h2, h3, h4⟩ := right_cons.1 hr; rw [endL]; omega
  | s :: r, m, i + 2, hr, hm => by
    obtain ⟨h1, h2, h3, h4⟩ := right_cons.1 hr
    have := end_low (i := i) h4 (by omega)
    rw [endL]
    omega
theorem end_up : ∀ {L : List (Int × Int)} {m : Int} {i : Nat}, rightF m L = true → endL L i ≠ 9223372036854775807 → endL L i < endL L (i + 1) ∧ endL L i ≤ 1048577 ∧ i < 2 * L.length
  | [], m, i, _, h => absurd rfl h
  | s :: r, m, 0, hr, h => by obtain ⟨h1, h2, h3, h4⟩ := right_cons.1 hr; simp only [endL, List.length_cons]; omega
  | s :: r, m, 1, hr, h => by
    obtain ⟨h1, h2, h3, h4⟩ := right_cons.1 hr
    have := end_low (i := 0) h4 (by omega)
    simp only [endL, List.length_cons]
    omega
  | s :: r, m, i + 2, hr, h => by
    obtain ⟨h1, h2, h3, h4⟩ := right_cons.1 hr
    have := end_up (i := i) h4 h
    simp only [endL, List.length_cons]
    omega
theorem end_most {L : List (Int × Int)} {m : Int} {i : Nat} (hr : rightF m L = true) : endL L i ≤ 9223372036854775807 := by
  by_cases h : endL L i = 9223372036854775807
  · omega
  · have := (end_up hr h).2.1
    omega
theorem end_none : ∀ {L : List (Int × Int)} {i : Nat}, i = 2 * L.length → endL L i = 9223372036854775807
  | [], _, _ => rfl
  | s :: r, 0, h => by simp at h
  | s :: r, 1, h => by simp only [List.length_cons] at h; omega
  | s :: r, i + 2, h => by simp only [List.length_cons] at h; exact end_none (L := r) (i := i) (by omega)
theorem end_in : ∀ {L : List (Int × Int)} {m v : Int} {i : Nat}, rightF m L = true → (i = 0 ∨ ∃ j, i = j + 1 ∧ endL L j ≤ v) → v < endL L i → v < 9223372036854775807 → inL L v = odd i
  | [], m, v, i, _, h, _, hb => by
    rcases h with rfl | ⟨j, rfl, h⟩
    · rfl
    · rw [endL] at h; omega
  | s :: r, m, v, 0, hr, h, hv, hb => by
    obtain ⟨h1, h2, h3, h4⟩ := right_cons.1 hr
    rw [endL] at hv
    exact in_cons_false.2 ⟨fun _ => by omega, in_out h4 (by omega)⟩
  | s :: r, m, v, 1, hr, h, hv, hb => by
    obtain ⟨h1, h2, h3, h4⟩ := right_cons.1 hr
    rcases h with h | ⟨j, hj, h⟩
    · omega
    · obtain rfl : j = 0 := by omega
      have hv : v < s.2 + 1 := hv
      have h : s.1 ≤ v := h
      exact in_cons.2 (.inl (by omega))
  | s :: r, m, v, i + 2, hr, h, hv, hb => by
    obtain ⟨h1, h2, h3, h4⟩ := right_cons.1 hr
    rcases h with h | ⟨j, hj, h⟩
    · omega
    · obtain rfl : j = i + 1 := by omega
      have o : odd (i + 2) = odd i := by unfold odd; congr 1; omega
      rw [o]
      cases i with
      | zero =>
        have hv : v < endL r 0 := hv
        have h : s.2 + 1 ≤ v := h
        have := end_in (i := 0) h4 (.inl rfl) hv hb
        rw [← this, Bool.eq_iff_iff, in_cons]
        constructor
        · rintro (h | h)
          · omega
          · exact h
        · exact .inr
      | succ i =>
        have hv : v < endL r (i + 1) := hv
        have h : endL r i ≤ v := h
        have hl := end_low (i := i) h4 (by omega)
        have := end_in (i := i + 1) h4 (.inr ⟨i, rfl, h⟩) hv hb
        rw [← this, Bool.eq_iff_iff, in_cons]
        constructor
        · rintro (h | h)
          · omega
          · exact h
        · exact .inr
end Go.Proofs.YtiaibggbbkhjlaaDoor
