/-
  A constraint that the document's reader of tokens takes: what its loops take in. Nothing of the program.
-/
import Derived.Test.YtfkakdpppejehaaGreatZGSum
namespace Go.Proofs.YtfkakdpppejehaaGreat.Pa
open Go.RowKit
open Sc (Tok Cells str noTok)
set_option maxRecDepth 100000

/- what a constraint that names its variables takes in -/
def tailR (K : Nat) (nu : Int) (c : PCon) : Rx PCon := if nu < 0 then ret c else brackets K nu.toNat c
def goN (m : Nat) (more : Bool) (T : List Tok) (r : Rd) : Bool := (decide (0 < m) && !r.wrong) || (more && namedO (next T r))
def goM (m : Nat) (T : List Tok) (r : Rd) : Bool := !r.wrong && (decide (0 < m) || !decide (textO (next T r) = tShut))
theorem names_eq (j m : Nat) (more : Bool) (c : PCon) (T : List Tok) (r : Rd) : namesR (j + 1) m more c T r = if goN m more T r = true then namesR j (m - 1) more { c with vars := c.vars ++ [(variableF r (next T r)).1] } T (variableF r (next T r)).2 else (c, r) := by
  show (if goN m more T r = true then seq (look variableF) fun x => namesR j (m - 1) more { c with vars := c.vars ++ [x] } else ret c) T r = _
  rw [if_app]
  rfl
theorem nums_eq (j m : Nat) (c : PCon) (T : List Tok) (r : Rd) : numsR (j + 1) m c T r = if goM m T r = true then numsR j (m - 1) { c with nums := c.nums ++ [(number T r).1] } T (number T r).2 else (c, r) := by
  show (if goM m T r = true then seq number fun x => numsR j (m - 1) { c with nums := c.nums ++ [x] } else ret c) T r = _
  rw [if_app]
  rfl
/-- a step, or something wrong -/
structure Went (r r' : Rd) : Prop where
  up : r.at_ ≤ r'.at_
  on : r'.wrong = true ∨ r.at_ < r'.at_
theorem variable_went (r : Rd) (o : Option Tok) : Went r (variableF r o).2 := by
  unfold variableF
  split
  · split
    · exact ⟨by simp [step1], .inr (by simp [step1])⟩
    · exact ⟨by simp [step1], .inr (by simp [step1])⟩
  · exact ⟨by simp [fail1], .inl rfl⟩
theorem value_went (r : Rd) (o : Option Tok) : Went r (valueF r o).2 := by
  unfold valueF
  split
  · exact ⟨by simp [step1], .inr (by simp [step1])⟩
  · exact ⟨by simp [fail1], .inl rfl⟩
theorem number_went (T : List Tok) (r : Rd) : Went r (number T r).2 := by
  have u1 : r.at_ ≤ (hasF tMinus r (next T r)).2.at_ := (fine_look (ok_has (s := tMinus) (by decide))).up T r
  have u2 := value_went (hasF tMinus r (next T r)).2 (next T (hasF tMinus r (next T r)).2)
  have e : (number T r).2 = (valueF (hasF tMinus r (next T r)).2 (next T (hasF tMinus r (next T r)).2)).2 := by
    show ((if (hasF tMinus r (next T r)).1 = true then seq (look valueF) fun v => ret (-v) else look valueF) T (hasF tMinus r (next T r)).2).2 = _
    rw [if_app]
    split <;> rfl
  rw [e]
  exact ⟨Nat.le_trans u1 u2.up, u2.on.imp id fun h => by omega⟩
theorem number_few {T : List Tok} {r : Rd} (hv : ∀ t ∈ T, t.value ≤ 2000000000000) : -2000000000000 ≤ (number T r).1 ∧ (number T r).1 ≤ 2000000000000 := by
  have h := value_few (r := (hasF tMinus r (next T r)).2) hv
  have e : (number T r).1 = (valueF (hasF tMinus r (next T r)).2 (next T (hasF tMinus r (next T r)).2)).1 ∨ (number T r).1 = -(valueF (hasF tMinus r (next T r)).2 (next T (hasF tMinus r (next T r)).2)).1 := by
    show ((if (hasF tMinus r (next T r)).1 = true then seq (look valueF) fun v => ret (-v) else look valueF) T (hasF tMinus r (next T r)).2).1 = _ ∨ ((if (hasF tMinus r (next T r)).1 = true then seq (look valueF) fun v => ret (-v) else look valueF) T (hasF tMinus r (next T r)).2).1 = _
    rw [if_app]
    split
    · exact .inr rfl
    · exact .inl rfl
  rcases e with e | e <;> rw [e] <;> omega
theorem go_right {m : Nat} {more : Bool} {T : List Tok} {r : Rd} (h : goN m more T r = true) : r.wrong = false := by
  refine right_of fun hw => ?_
  unfold goN at h
  rw [next_wrong hw, hw] at h
  simp [namedO, kindO] at h
theorem gom_right {m : Nat} {T : List Tok} {r : Rd} (h : goM m T r = true) : r.wrong = false := by
  refine right_of fun hw => ?_
  unfold goM at h
  rw [hw] at h
  simp at h
/-- so long is a list that a reader fills -/
def Short (l : Nat) (r : Rd) : Prop := l + (if r.wrong = true then 0 else 1) ≤ r.at_ + 1
theorem short_on {l : Nat} {r r' : Rd} (h : Short l r) (hw : r.wrong = false) (hg : Went r r') : Short (l + 1) r' := by
  unfold Short at h ⊢
  rw [hw] at h
  have := hg.up
  rcases hg.on with e | e
  · rw [e]
    simp at h ⊢
    omega
  · simp at h
    split <;> omega
/-- fuel for a reader -/
def Fuel (n j : Nat) (r : Rd) : Prop := r.wrong = true ∨ n < j + r.at_
theorem fuel_on {n j : Nat} {r r' : Rd} (h : Fuel n (j + 1) r) (hw : r.wrong = false) (hg : Went r r') : Fuel n j r' := by
  rcases h with h | h
  · rw [hw] at h
    cases h
  · exact hg.on.imp id fun e => by omega
theorem fuel_pos {n j : Nat} {r : Rd} (h : Fuel n j r) (hw : r.wrong = false) (ht : r.at_ ≤ n) : ∃ i, j = i + 1 := by
  rcases h with h | h
  · rw [hw] at h
    cases h
  · exact ⟨j - 1, by omega⟩
def NamesTo (n K m : Nat) (more : Bool) (c0 : PCon) (T : List Tok) (r0 : Rd) (c : PCon) (r : Rd) : Prop := ∃ j, namesR K m more c0 T r0 = namesR j (m - c.vars.length) more c T r ∧ Fuel n j r
def NumsTo (n K m : Nat) (c0 : PCon) (T : List Tok) (r0 : Rd) (c : PCon) (r : Rd) : Prop := ∃ j, numsR K m c0 T r0 = numsR j (m - c.nums.length) c T r ∧ Fuel n j r
theorem names_on {n K m : Nat} {more : Bool} {c0 : PCon} {T : List Tok} {r0 : Rd} {c : PCon} {r : Rd} (h : NamesTo n K m more c0 T r0 c r) (hg : goN (m - c.vars.length) more T r = true) (ht : r.at_ ≤ n) : NamesTo n K m more c0 T r0 { c with vars := c.vars ++ [(variableF r (next T r)).1] } (variableF r (next T r)).2 := by
  obtain ⟨j, e, f⟩ := h
  obtain ⟨i, rfl⟩ := fuel_pos f (go_right hg) ht
  refine ⟨i, ?_, fuel_on f (go_right hg) (variable_went _ _)⟩
  rw [e, names_eq, if_pos hg]
  simp only [List.length_append, List.length_cons, List.length_nil, Nat.zero_add, Nat.sub_sub]
theorem names_off {n K m : Nat} {more : Bool} {c0 : PCon} {T : List Tok} {r0 : Rd} {c : PCon} {r : Rd} (h : NamesTo n K m more c0 T r0 c r) (hg : goN (m - c.vars.length) more T r = false) : namesR K m more c0 T r0 = (c, r) := by
  obtain ⟨j, e, f⟩ := h
  rw [e]
  cases j with
  | zero => rfl
  | succ i => rw [names_eq, if_neg (by rw [hg]; simp)]
theorem nums_on {n K m : Nat} {c0 : PCon} {T : List Tok} {r0 : Rd} {c : PCon} {r : Rd} (h : NumsTo n K m c0 T r0 c r) (hg : goM (m - c.nums.length) T r = true) (ht : r.at_ ≤ n) : NumsTo n K m c0 T r0 { c with nums := c.nums ++ [(number T r).1] } (number T r).2 := by
  obtain ⟨j, e, f⟩ := h
  obtain ⟨i, rfl⟩ := fuel_pos f (gom_right hg) ht
  refine ⟨i, ?_, fuel_on f (gom_right hg) (number_went _ _)⟩
  rw [e, nums_eq, if_pos hg]
  simp only [List.length_append, List.length_cons, List.length_nil, Nat.zero_add, Nat.sub_sub]
theorem nums_off {n K m : Nat} {c0 : PCon} {T : List Tok} {r0 : Rd} {c : PCon} {r : Rd} (h : NumsTo n K m c0 T r0 c r) (hg : goM (m - c.nums.length) T r = false) : numsR K m c0 T r0 = (c, r) := by
  obtain ⟨j, e, f⟩ := h
  rw [e]
  cases j with
  | zero => rfl
  | succ i => rw [nums_eq, if_neg (by rw [hg]; simp)]
/-- how far a reader is from its end, out of its own cells -/
def leftOf (w : World) (g n : Nat) : Nat := (n - tookOf w g) + match w.cell? ⟨g, 2, none⟩ with
  | some (.bool true) => 0
  | _ => 1
theorem left_at {w : World} {g n : Nat} {pl : Option Addr} {bl ol cl : Nat} {pv : Option Addr} {bv ov m cv : Nat} {T : List Tok} {r : Rd} (h : RdAt w g n pl bl ol cl pv bv ov m cv T r) : leftOf w g n = (n - r.at_) + if r.wrong = true then 0 else 1 := by
  unfold leftOf
  rw [tookOf_at h, h.c2]
  cases r.wrong <;> rfl
theorem left_less {n : Nat} {r r' : Rd} (hw : r.wrong = false) (hg : Went r r') (ht : r'.at_ ≤ n) : ((n - r'.at_) + if r'.wrong = true then 0 else 1) < (n - r.at_) + if r.wrong = true then 0 else 1 := by
  rw [hw]
  have := hg.up
  rcases hg.on with e | e
  · rw [e]
    simp
    omega
  · split <;> simp <;> omega
theorem must_step {s : Txt} {r : Rd} {o : Option Tok} (h : textO o = s) : (mustF s r o).2 = step1 r := by
  unfold mustF
  rw [if_pos h]
theorem con_form (K : Nat) (T : List Tok) (r : Rd) : conR K T r = (if textO (next T r) = tProduct then seq (look (mustF tProduct)) fun _ => namesR K 3 false (conOf 2)
  else if textO (next T r) = tIff then seq (look (mustF tIff)) fun _ => seq (look variableF) fun x => sumR K { conOf 3 with vars := [x] }
  else if textO (next T r) = tElement then seq (look (mustF tElement)) fun _ => seq (namesR K 2 false (conOf 4)) fun c => brackets K 1 c
  else if textO (next T r) = tDifferent then seq (look (mustF tDifferent)) fun _ => namesR K 2 true (conOf 5)
  else if textO (next T r) = tTable then seq (look (mustF tTable)) fun _ => seq (namesR K 1 true (conOf 6)) fun c => brackets K 0 c
  else sumR K (conOf 1)) T r := rfl
theorem con_product {K : Nat} {T : List Tok} {r : Rd} (h : textO (next T r) = tProduct) : conR K T r = seq (namesR K 3 false (conOf 2)) (tailR K (-1)) T (step1 r) := by
  rw [con_form, if_pos h, ← must_step (s := tProduct) h]
  rfl
theorem con_iff {K : Nat} {T : List Tok} {r : Rd} (h : textO (next T r) = tIff) : conR K T r = sumR K { conOf 3 with vars := [(variableF (step1 r) (next T (step1 r))).1] } T (variableF (step1 r) (next T (step1 r))).2 := by
  rw [con_form, if_neg (by rw [h]; decide), if_pos h, ← must_step (s := tIff) h]
  rfl
theorem con_element {K : Nat} {T : List Tok} {r : Rd} (h : textO (next T r) = tElement) : conR K T r = seq (namesR K 2 false (conOf 4)) (tailR K 1) T (step1 r) := by
  rw [con_form, if_neg (by rw [h]; decide), if_neg (by rw [h]; decide), if_pos h, ← must_step (s := tElement) h]
  rfl
theorem con_different {K : Nat} {T : List Tok} {r : Rd} (h : textO (next T r) = tDifferent) : conR K T r = seq (namesR K 2 true (conOf 5)) (tailR K (-1)) T (step1 r) := by
  rw [con_form, if_neg (by rw [h]; decide), if_neg (by rw [h]; decide), if_neg (by rw [h]; decide), if_pos h, ← must_step (s := tDifferent) h]
  rfl
theorem con_table {K : Nat} {T : List Tok} {r : Rd} (h : textO (next T r) = tTable) : conR K T r = seq (namesR K 1 true (conOf 6)) (tailR K 0) T (step1 r) := by
  rw [con_form, if_neg (by rw [h]; decide), if_neg (by rw [h]; decide), if_neg (by rw [h]; decide), if_neg (by rw [h]; decide), if_pos h, ← must_step (s := tTable) h]
  rfl
theorem con_sum {K : Nat} {T : List Tok} {r : Rd} (h1 : textO (next T r) ≠ tProduct) (h2 : textO (next T r) ≠ tIff) (h3 : textO (next T r) ≠ tElement) (h4 : textO (next T r) ≠ tDifferent) (h5 : textO (next T r) ≠ tTable) : conR K T r = sumR K (conOf 1) T r := by
  rw [con_form, if_neg h1, if_neg h2, if_neg h3, if_neg h4, if_neg h5]
theorem tail_none {K : Nat} {c : PCon} {T : List Tok} {r : Rd} {nu : Int} (h : nu < 0) : tailR K nu c T r = (c, r) := by
  unfold tailR
  rw [if_pos h]
  rfl
theorem tail_some {K : Nat} {c : PCon} {T : List Tok} {r : Rd} {nu : Nat} : tailR K nu c T r = ((numsR K nu c T (mustF tOpen r (next T r)).2).1, (mustF tShut (numsR K nu c T (mustF tOpen r (next T r)).2).2 (next T (numsR K nu c T (mustF tOpen r (next T r)).2).2)).2) := by
  unfold tailR
  rw [if_neg (by omega)]
  rfl

end Go.Proofs.YtfkakdpppejehaaGreat.Pa
