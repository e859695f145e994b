/-
  What a linear step leaves, by what it keeps: the program's and the document's answers are the same. Nothing of the program.
  The program's step and the document's leave the same. Nothing of the program.
-/
import Derived.Test.YtccgoigmchcggaaDoorZYBJ
import Derived.Test.YtccgoigmchcggaaDoorZIStep
namespace Go.Proofs.YtccgoigmchcggaaDoor.St
set_option maxRecDepth 100000

theorem vars_ne {vars : List Int} {n : Int} (h : VarsTo vars n vars.length) {a b : Nat} (ha : a < vars.length) (hb : b < vars.length) (hne : a ≠ b) : (vars.getD a 0).toNat ≠ (vars.getD b 0).toNat := by
  have h1 := (h a ha).1
  have h2 := (h b hb).1
  intro e
  have e2 : vars.getD a 0 = vars.getD b 0 := by omega
  rcases Nat.lt_or_gt_of_ne hne with q | q
  · exact (h b hb).2 a q e2
  · exact (h a ha).2 b q e2.symm
/-- of a variable at a place: what is set there -/
theorem stepTo_at {L : List (List Int × Nat)} {vars : List Int} {K : Nat → Int → Bool} (h : VarsTo vars (L.length : Int) vars.length) : ∀ {j a : Nat}, j ≤ vars.length → a < j → (stepTo L vars K j).getD (vars.getD a 0).toNat ([], 0) = ((L.getD (vars.getD a 0).toNat ([], 0)).1, Dm.keepN (L.getD (vars.getD a 0).toNat ([], 0)).1 (L.getD (vars.getD a 0).toNat ([], 0)).2 (K a))
  | 0, a, _, ha => by omega
  | j + 1, a, hj, ha => by
    rw [stepTo_succ, getD_set, stepTo_length]
    by_cases e : a = j
    · subst e
      rw [if_pos ⟨rfl, by have := (h a (by omega)).1; omega⟩]
    · rw [if_neg (fun q => vars_ne h (a := j) (b := a) (by omega) (by omega) (fun q => e q.symm) q.1)]
      exact stepTo_at h (by omega) (by omega)
theorem stepTo_off {L : List (List Int × Nat)} {vars : List Int} {K : Nat → Int → Bool} {i : Nat} : ∀ {j : Nat}, (∀ a, a < j → (vars.getD a 0).toNat ≠ i) → (stepTo L vars K j).getD i ([], 0) = L.getD i ([], 0)
  | 0, _ => rfl
  | j + 1, h => by
    rw [stepTo_succ, getD_set, if_neg (fun q => h j (Nat.lt_succ_self j) q.1)]
    exact stepTo_off fun a ha => h a (by omega)
theorem getL_set (M : List (List Int)) (y : Nat) (d : List Int) (i : Nat) : (M.set y d).getD i [] = if y = i ∧ y < M.length then d else M.getD i [] := by
  rw [List.getD_eq_getElem?_getD, List.getElem?_set]
  by_cases e : y = i
  · subst e
    by_cases hl : y < M.length
    · simp [hl]
    · simp [hl]
  · simp [e]
theorem setTo_at {M : List (List Int)} {vars : List Int} {f : Nat → List Int} (h : VarsTo vars (M.length : Int) vars.length) : ∀ {j a : Nat}, j ≤ vars.length → a < j → (setTo M vars f j).getD (vars.getD a 0).toNat [] = f a
  | 0, a, _, ha => by omega
  | j + 1, a, hj, ha => by
    rw [setTo_succ, getL_set, setTo_length]
    by_cases e : a = j
    · subst e
      rw [if_pos ⟨rfl, by have := (h a (by omega)).1; omega⟩]
    · rw [if_neg (fun q => vars_ne h (a := j) (b := a) (by omega) (by omega) (fun q => e q.symm) q.1)]
      exact setTo_at h (by omega) (by omega)
theorem setTo_off {M : List (List Int)} {vars : List Int} {f : Nat → List Int} {i : Nat} : ∀ {j : Nat}, (∀ a, a < j → (vars.getD a 0).toNat ≠ i) → (setTo M vars f j).getD i [] = M.getD i []
  | 0, _ => rfl
  | j + 1, h => by
    rw [setTo_succ, getL_set, if_neg (fun q => h j (Nat.lt_succ_self j) q.1)]
    exact setTo_off fun a ha => h a (by omega)
theorem vars_drop {vars : List Int} {n : Int} (h : VarsTo vars n vars.length) (b : Nat) : VarsTo (vars.drop b) n (vars.drop b).length := by
  have e : ∀ j, (vars.drop b).getD j 0 = vars.getD (b + j) 0 := fun j => by simp [List.getD, List.getElem?_drop]
  intro i hi
  rw [List.length_drop] at hi
  have h1 := h (b + i) (by omega)
  rw [e]
  exact ⟨h1.1, fun j hj => by rw [e]; exact h1.2 (b + j) (by omega)⟩
theorem lefts_getD (L : List (List Int × Nat)) (i : Nat) : (leftsOf L).getD i [] = leftOf (L.getD i ([], 0)) := by
  unfold leftsOf
  rw [List.getD_eq_getElem?_getD, List.getD_eq_getElem?_getD, List.getElem?_map]
  cases L[i]? <;> simp [leftOf, Dm.leftM, Dm.left, B.mem_none]
theorem drop_getD (xs : List Int) (b j : Nat) : (xs.drop b).getD j 0 = xs.getD (b + j) 0 := by simp [List.getD, List.getElem?_drop]

/- the parts of a sum, and the sums -/
theorem end_same (vars ks : List Int) (L : List (List Int × Nat)) (k : Nat) (hk : k < vars.length) : endP ks (domsOf L vars) k = endK vars ks (leftsOf L) k := by
  unfold endP endK
  rw [doms_get hk, lefts_getD]
  simp only
  split
  · rename_i q
    rw [Int.min_eq_right (by omega), Int.max_eq_left (by omega)]
  · rename_i q
    rw [Int.min_eq_left (by omega), Int.max_eq_right (by omega)]
theorem tot_same (vars ks : List Int) (L : List (List Int × Nat)) : ∀ j, j ≤ vars.length → totTo (endP ks (domsOf L vars)) j = endsTo vars ks (leftsOf L) (-1) j
  | 0, _ => rfl
  | j + 1, hj => by
    rw [totTo, endsTo, if_neg (by omega), tot_same vars ks L j (by omega), end_same vars ks L j (by omega)]
theorem ends_but (vars ks : List Int) (M : List (List Int)) (a : Nat) : ∀ j, (endsTo vars ks M a j).1 = (endsTo vars ks M (-1) j).1 - (if a < j then (endK vars ks M a).1 else 0) ∧ (endsTo vars ks M a j).2 = (endsTo vars ks M (-1) j).2 - (if a < j then (endK vars ks M a).2 else 0)
  | 0 => by simp [endsTo]
  | j + 1 => by
    have ih := ends_but vars ks M a j
    rw [endsTo, endsTo, if_neg (show ¬ (j : Int) = -1 by omega)]
    by_cases e : (j : Int) = (a : Int)
    · obtain rfl : j = a := by omega
      rw [if_pos rfl, if_pos (Nat.lt_succ_self j)]
      rw [if_neg (Nat.lt_irrefl j), if_neg (Nat.lt_irrefl j)] at ih
      simp only
      omega
    · rw [if_neg e]
      by_cases h : a < j
      · rw [if_pos h, if_pos h] at ih
        rw [if_pos (by omega), if_pos (by omega)]
        simp only
        omega
      · rw [if_neg h, if_neg h] at ih
        rw [if_neg (by omega), if_neg (by omega)]
        simp only
        omega
/-- a value is kept by a sum, as by the document -/
theorem sum_kept {vars ks : List Int} {L : List (List Int × Nat)} {rel ag : Int} {a : Nat} (ha : a < vars.length) (x : Int) (hx : x ∈ leftOf (L.getD (vars.getD a 0).toNat ([], 0))) : x ∈ sumRow vars ks (leftsOf L) rel ag a ↔ sumK ks (endP ks (domsOf L vars)) vars.length rel ag a x = true := by
  unfold sumRow sumK
  rw [List.mem_filter, lefts_getD, tot_same vars ks L _ (Nat.le_refl _), end_same vars ks L a ha]
  have h := ends_but vars ks (leftsOf L) a vars.length
  rw [if_pos ha, if_pos ha] at h
  rw [h.1, h.2]
  exact ⟨fun q => q.2, fun q => ⟨hx, q⟩⟩
theorem doms_drop1 (L : List (List Int × Nat)) (vars : List Int) : (domsOf L vars).drop 1 = domsOf L (vars.drop 1) := by simp [domsOf]
theorem doms_length (L : List (List Int × Nat)) (vars : List Int) : (domsOf L vars).length = vars.length := by simp [domsOf]
theorem wipe_same (L : List (List Int × Nat)) (vars : List Int) : ((domsOf L vars).any fun d => decide ((leftOf d).length = 0)) = wipeTo (leftsOf L) vars vars.length := by
  unfold wipeTo domsOf
  rw [List.take_length, List.any_map]
  congr 1
  funext v
  simp only [Function.comp]
  rw [lefts_getD]

/- what is kept of a domain -/
theorem keep_left {xs : List Int} {x : Nat} (h : Dm.mayL xs x = true) {l : List Int} (hl : ∀ y, y ∈ leftOf (xs, x) → y ∈ l) : Dm.keepN xs x (fun y => decide (y ∈ l)) = x := by
  refine B.same_bits (Dm.keep_lt _ _ _) (Dm.may_lt h) fun k hk => ?_
  rw [Dm.keep_bit _ _ _ _ hk]
  cases hb : x.testBit k
  · simp
  · have hkl := Dm.bit_len (Dm.may_iff.1 h).2.1 hb
    have hm : xs.getD k 0 ∈ l := hl _ (by
      show xs.getD k 0 ∈ Dm.leftM xs x
      unfold Dm.leftM
      rw [if_pos h]
      exact (Dm.left_mem h _).2 ⟨k, hkl, hb, rfl⟩)
    rw [decide_eq_true hkl, decide_eq_true hm]
    rfl
theorem keep_mem {xs : List Int} {x : Nat} (h : Dm.mayL xs x = true) {l : List Int} {p : Int → Bool} (hl : ∀ y, y ∈ leftOf (xs, x) → (y ∈ l ↔ p y = true)) : Dm.keepN xs x (fun y => decide (y ∈ l)) = Dm.keepN xs x p := by
  refine Dm.keep_congr fun k hk hb => ?_
  have := hl (xs.getD k 0) (by
      show xs.getD k 0 ∈ Dm.leftM xs x
      unfold Dm.leftM
      rw [if_pos h]
      exact (Dm.left_mem h _).2 ⟨k, hk, hb, rfl⟩)
  rw [Bool.eq_iff_iff]
  simpa using this
theorem keepOf_may {d : List Int × Nat} (h : Dm.mayL d.1 d.2 = true) (l : List Int) : keepOf d l = (d.1, Dm.keepN d.1 d.2 (fun y => decide (y ∈ l))) := by
  unfold keepOf Dm.keepX Dm.keepL
  rw [if_pos h, if_pos h]
end Go.Proofs.YtccgoigmchcggaaDoor.St
namespace Go.Proofs.YtccgoigmchcggaaDoor.St
set_option maxRecDepth 100000

theorem left_at {c : PCon} {L : List (List Int × Nat)} (hvt : VarsTo c.vars (L.length : Int) c.vars.length) (hk : c.kind = 1 ∨ c.kind = 3 ∧ 1 ≤ c.vars.length) {a : Nat} (ha : a < c.vars.length) {y : Int} (hy : y ∈ leftOf (L.getD (c.vars.getD a 0).toNat ([], 0))) :
    y ∈ (stepLeft (leftsOf L) c).getD (c.vars.getD a 0).toNat [] ↔ keepK c.kind c.coefs (domsOf L c.vars) c.rel c.const a y = true := by
  have hvm : VarsTo c.vars ((leftsOf L).length : Int) c.vars.length := by rw [lefts_length]; exact hvt
  have hmem : ∀ b, b < c.vars.length → (c.vars.getD b 0).toNat < (leftsOf L).length := fun b hb => by have := (hvm b hb).1; omega
  unfold stepLeft keepK
  rw [wipe_same]
  cases hw : wipeTo (leftsOf L) c.vars c.vars.length with
  | true =>
    rw [if_pos rfl, if_pos rfl]
    rw [noneL, setTo_at hvm (Nat.le_refl _) ha]
    simp
  | false =>
    rw [if_neg Bool.false_ne_true, if_neg Bool.false_ne_true]
    by_cases h1 : c.kind = 1
    · rw [if_pos h1, if_pos h1, sumL, setTo_at hvm (Nat.le_refl _) ha, doms_length]
      exact sum_kept ha y hy
    · rw [if_neg h1, if_neg h1]
      obtain ⟨_, hl1⟩ := hk.resolve_left h1
      have hd1 := vars_drop hvm 1
      have e0 : leftOf ((domsOf L c.vars).getD 0 ([], 0)) = (leftsOf L).getD (c.vars.getD 0 0).toNat [] := by rw [doms_get (by omega), lefts_getD]
      have eT : totTo (endP c.coefs ((domsOf L c.vars).drop 1)) ((domsOf L c.vars).length - 1) = endsTo (c.vars.drop 1) c.coefs (leftsOf L) (-1) (c.vars.drop 1).length := by
        rw [doms_drop1, doms_length, ← tot_same _ _ _ _ (Nat.le_refl _), List.length_drop]
      rw [eT, e0]
      obtain ⟨row, hrow⟩ : ∃ r, r = (leftsOf L).getD (c.vars.getD 0 0).toNat [] := ⟨_, rfl⟩
      obtain ⟨T, hT⟩ : ∃ T, T = endsTo (c.vars.drop 1) c.coefs (leftsOf L) (-1) (c.vars.drop 1).length := ⟨_, rfl⟩
      have hfirst : firstL (leftsOf L) c = (if (decide (0 ∈ row) && mayG T.1 T.2 (contrary c.rel) c.const) = true then [0] else []) ++ (if (decide (1 ∈ row) && mayG T.1 T.2 c.rel c.const) = true then [1] else []) := by
        unfold firstL
        rw [hrow, hT]
      have hoth : othersL (leftsOf L) c = if 1 ∈ row then (if 0 ∈ row then leftsOf L else sumL (c.vars.drop 1) c.coefs (leftsOf L) c.rel c.const) else sumL (c.vars.drop 1) c.coefs (leftsOf L) (contrary c.rel) c.const := by
        unfold othersL
        rw [hrow]
      rw [← hrow, ← hT]
      rcases Nat.eq_zero_or_pos a with rfl | hp
      · have hyr : y ∈ row := by rw [hrow, lefts_getD]; exact hy
        rw [show iffK (mayG T.1 T.2 c.rel c.const) (mayG T.1 T.2 (contrary c.rel) c.const) (othK (decide ((1 : Int) ∈ row)) (decide ((0 : Int) ∈ row)) c.coefs (endP c.coefs ((domsOf L c.vars).drop 1)) ((domsOf L c.vars).length - 1) c.rel c.const) 0 y = (decide (y = 1) && mayG T.1 T.2 c.rel c.const || decide (y = 0) && mayG T.1 T.2 (contrary c.rel) c.const) from if_pos rfl]
        by_cases hn : 0 ∉ row ∧ 1 ∉ row
        · rw [if_pos hn, noneL, setTo_at hvm (Nat.le_refl _) ha]
          have h0 : y ≠ 0 := fun e => hn.1 (e ▸ hyr)
          have h1' : y ≠ 1 := fun e => hn.2 (e ▸ hyr)
          simp [h0, h1']
        · rw [if_neg hn, getL_set, if_pos ⟨rfl, by rw [others_length]; exact hmem 0 ha⟩, hfirst]
          by_cases y1 : y = 1
          · subst y1
            rw [decide_eq_true hyr]
            cases mayG T.1 T.2 c.rel c.const <;> cases decide ((0 : Int) ∈ row) <;> cases mayG T.1 T.2 (contrary c.rel) c.const <;> simp
          · by_cases y0 : y = 0
            · subst y0
              rw [decide_eq_true hyr]
              cases mayG T.1 T.2 c.rel c.const <;> cases decide ((1 : Int) ∈ row) <;> cases mayG T.1 T.2 (contrary c.rel) c.const <;> simp
            · have : (decide (y = 1) && mayG T.1 T.2 c.rel c.const || decide (y = 0) && mayG T.1 T.2 (contrary c.rel) c.const) = false := by simp [y0, y1]
              rw [this]
              cases mayG T.1 T.2 c.rel c.const <;> cases decide ((1 : Int) ∈ row) <;> cases decide ((0 : Int) ∈ row) <;> cases mayG T.1 T.2 (contrary c.rel) c.const <;> simp [y0, y1]
      · obtain ⟨b, rfl⟩ : ∃ b, a = b + 1 := ⟨a - 1, by omega⟩
        rw [show iffK (mayG T.1 T.2 c.rel c.const) (mayG T.1 T.2 (contrary c.rel) c.const) (othK (decide ((1 : Int) ∈ row)) (decide ((0 : Int) ∈ row)) c.coefs (endP c.coefs ((domsOf L c.vars).drop 1)) ((domsOf L c.vars).length - 1) c.rel c.const) (b + 1) y = othK (decide ((1 : Int) ∈ row)) (decide ((0 : Int) ∈ row)) c.coefs (endP c.coefs ((domsOf L c.vars).drop 1)) ((domsOf L c.vars).length - 1) c.rel c.const b y from if_neg (by omega)]
        have hb : b < (c.vars.drop 1).length := by rw [List.length_drop]; omega
        have eb : c.vars.getD (b + 1) 0 = (c.vars.drop 1).getD b 0 := by rw [drop_getD, Nat.add_comm]
        have hyb : y ∈ leftOf (L.getD ((c.vars.drop 1).getD b 0).toNat ([], 0)) := by rw [← eb]; exact hy
        have hD : (domsOf L c.vars).length - 1 = (c.vars.drop 1).length := by rw [doms_length, List.length_drop]
        unfold othK
        rw [doms_drop1, hD]
        by_cases hn : 0 ∉ row ∧ 1 ∉ row
        · rw [if_pos hn, noneL, setTo_at hvm (Nat.le_refl _) ha, if_neg (by simpa using hn.2), if_neg (by simpa using hn.1)]
          simp
        · rw [if_neg hn, getL_set, if_neg (fun q => vars_ne hvm (a := 0) (b := b + 1) (by omega) ha (by omega) q.1), hoth]
          by_cases hY : 1 ∈ row
          · rw [if_pos hY, if_pos (decide_eq_true hY)]
            by_cases hN : 0 ∈ row
            · rw [if_pos hN, if_pos (decide_eq_true hN), lefts_getD]
              exact ⟨fun _ => rfl, fun _ => hy⟩
            · rw [if_neg hN, if_neg (by simpa using hN), sumL, eb, setTo_at hd1 (Nat.le_refl _) hb]
              exact sum_kept hb y hyb
          · have hN : 0 ∈ row := Classical.byContradiction fun q => hn ⟨q, hY⟩
            rw [if_neg hY, if_neg (by simpa using hY), if_pos (decide_eq_true hN), sumL, eb, setTo_at hd1 (Nat.le_refl _) hb]
            exact sum_kept hb y hyb
theorem left_off {c : PCon} {L : List (List Int × Nat)} (hl : 1 ≤ c.vars.length) {i : Nat} (hi : ∀ a, a < c.vars.length → (c.vars.getD a 0).toNat ≠ i) : (stepLeft (leftsOf L) c).getD i [] = leftOf (L.getD i ([], 0)) := by
  have h1 : ∀ b, b < (c.vars.drop 1).length → ((c.vars.drop 1).getD b 0).toNat ≠ i := fun b hb => by
    rw [drop_getD]
    exact hi _ (by rw [List.length_drop] at hb; omega)
  rw [← lefts_getD]
  unfold stepLeft
  split
  · exact setTo_off hi
  · split
    · exact setTo_off hi
    · split
      · exact setTo_off hi
      · rw [getL_set, if_neg (fun q => hi 0 (by omega) q.1)]
        unfold othersL
        simp only
        split
        · split
          · rfl
          · exact setTo_off h1
        · exact setTo_off h1
theorem keepTo_getD {L : List (List Int × Nat)} {M : List (List Int)} {n i : Nat} (h : i < n) : (keepTo L M n).getD i ([], 0) = keepOf (L.getD i ([], 0)) (M.getD i []) := by
  unfold keepTo
  rw [List.getD_eq_getElem?_getD, List.getElem?_map, List.getElem?_range h]
  rfl
theorem ext_getD {A C : List (List Int × Nat)} (hl : A.length = C.length) (h : ∀ i, i < A.length → A.getD i ([], 0) = C.getD i ([], 0)) : A = C := by
  refine List.ext_getElem hl fun i h1 h2 => ?_
  have := h i h1
  rwa [List.getD_eq_getElem?_getD, List.getElem?_eq_getElem h1, List.getD_eq_getElem?_getD, List.getElem?_eq_getElem h2] at this
theorem step_same (c : PCon) (L : List (List Int × Nat)) : stepP c L = stepD c L := by
  unfold stepP stepD
  rw [rightP_S]
  cases hr : rightS c L [1, 3] with
  | false => rw [if_neg Bool.false_ne_true, if_neg Bool.false_ne_true]
  | true =>
    rw [if_pos rfl, if_pos rfl]
    obtain ⟨hkd, hmy, hrc⟩ := rightS_parts hr
    have hvt := right_vars hrc
    have hln := right_lin hrc
    have hk : c.kind = 1 ∧ 1 ≤ c.vars.length ∨ c.kind = 3 ∧ 1 ≤ c.vars.length := by
      have h2 : c.kind = 1 ∨ c.kind = 3 := by simpa using hkd
      rcases h2 with q | q
      · have := (Gr.lin_parts.1 (hln.1 q)).1
        exact .inl ⟨q, by omega⟩
      · have := (Gr.lin_parts.1 (hln.2 q)).1
        exact .inr ⟨q, by omega⟩
    have hl1 : 1 ≤ c.vars.length := by rcases hk with q | q <;> exact q.2
    refine congrArg (·, (0 : Int)) (ext_getD (by rw [stepTo_length, keepTo_length]) fun i hi => ?_)
    rw [stepTo_length] at hi
    have hmi := may_all hmy hi
    rw [keepTo_getD hi, keepOf_may hmi]
    by_cases hv : ∃ a, a < c.vars.length ∧ (c.vars.getD a 0).toNat = i
    · obtain ⟨a, ha, rfl⟩ := hv
      rw [stepTo_at hvt (Nat.le_refl _) ha]
      refine congrArg ((L.getD (c.vars.getD a 0).toNat ([], 0)).1, ·) (keep_mem hmi fun y hy => ?_).symm
      exact left_at hvt (hk.imp (fun q => q.1) id) ha hy
    · have hoff : ∀ a, a < c.vars.length → (c.vars.getD a 0).toNat ≠ i := fun a ha e => hv ⟨a, ha, e⟩
      rw [stepTo_off hoff, left_off hl1 hoff, keep_left hmi fun y hy => hy]
end Go.Proofs.YtccgoigmchcggaaDoor.St
