/-
  What the program's parser takes in is what the document's reader takes in. Nothing of the program.
  What the program's parser takes in is what the document's reader takes in: constraints, ranges, variables. Nothing of the program.
-/
import Derived.Test.YtkgieaoahijheaaGreatDoorZYAW
import Derived.Test.YtkgieaoahijheaaGreatDoorZYAJ
namespace Go.Proofs.YtkgieaoahijheaaGreatDoor.Pp
open Sc (Tok)
open Pa
set_option maxRecDepth 100000

/-- the document's reader tells x, the program's parser y -/
structure Agr {α : Type} (x y : α × Rd) : Prop where
  wrong : y.2.wrong = x.2.wrong
  at_ : y.2.at_ = x.2.at_
  ok : x.2.wrong = false → y.2 = x.2 ∧ (x.2.bad = none → y.1 = x.1)
section
variable {α β γ : Type} {K : Nat}
theorem Agr.refl (x : α × Rd) : Agr x x := ⟨rfl, rfl, fun _ => ⟨rfl, fun _ => rfl⟩⟩
theorem agr_wrong {P Q : Rx α} (hP : Tame P) (hQ : Tame Q) {T : List Tok} {r q : Rd} (hw : r.wrong = true) (hw' : q.wrong = true) (ha : q.at_ = r.at_) : Agr (P T r) (Q T q) :=
  ⟨by rw [hP.wrong T r hw, hQ.wrong T q hw'], by rw [hP.stay T r hw, hQ.stay T q hw', ha], fun h => by rw [hP.wrong T r hw] at h; cases h⟩
def Sim (K : Nat) (P Q : Rx α) : Prop := ∀ T r, T.length < K → r.at_ ≤ T.length → Agr (P T r) (Q T r)
def SimA (K : Nat) (F G : α → Rx β) : Prop := ∀ T r a a', T.length < K → r.at_ ≤ T.length → (r.bad = none → a' = a) → Agr (F a T r) (G a' T r)
theorem sim_refl (P : Rx α) : Sim K P P := fun _ _ _ _ => Agr.refl _
theorem sim_seq {P Q : Rx α} {f g : α → Rx β} (h : Sim K P Q) (hP : Fine P) (hf : SimA K f g) (tf : ∀ a, Tame (f a)) (tg : ∀ a, Tame (g a)) : Sim K (seq P f) (seq Q g) := fun T r hK ht => by
  have ha := h T r hK ht
  cases hw : (P T r).2.wrong
  · obtain ⟨e1, e2⟩ := ha.ok hw
    show Agr (f (P T r).1 T (P T r).2) (g (Q T r).1 T (Q T r).2)
    rw [e1]
    exact hf T _ _ _ hK (hP.top T r ht) e2
  · exact agr_wrong (tf _) (tg _) hw (by rw [ha.wrong, hw]) ha.at_
theorem sim_same {P : Rx α} {f g : α → Rx β} (hP : Fine P) (h : ∀ b, Sim K (f b) (g b)) : Sim K (seq P f) (seq P g) := fun T r hK ht => h _ T _ hK (hP.top T r ht)
theorem simA_same {P : Rx γ} {F G : α → γ → Rx β} (hP : Fine P) (kP : Tame P) (h : ∀ b, SimA K (fun a => F a b) (fun a => G a b)) : SimA K (fun a => seq P (F a)) (fun a => seq P (G a)) :=
  fun T r a a' hK ht hb => h _ T _ a a' hK (hP.top T r ht) (fun e => hb (kP.bad T r e))
theorem simA_ret (f : α → β) : SimA K (fun a => ret (f a)) (fun a => ret (f a)) := fun _ _ _ _ _ _ h => ⟨rfl, rfl, fun _ => ⟨rfl, fun e => by show f _ = f _; rw [h e]⟩⟩
theorem simA_of {F G : α → Rx β} (h : SimA K F G) (a : α) : Sim K (F a) (G a) := fun T r hK ht => h T r a a hK ht fun _ => rfl
theorem simA_const {P Q : Rx β} (h : Sim K P Q) : SimA K (fun _ : α => P) (fun _ => Q) := fun T r _ _ hK ht _ => h T r hK ht
theorem simA_if {c : Prop} [Decidable c] {A B A' B' : α → Rx β} (hA : SimA K A A') (hB : SimA K B B') : SimA K (fun a => if c then A a else B a) (fun a => if c then A' a else B' a) := by
  split <;> assumption
theorem sim_if {c : Prop} [Decidable c] {A B A' B' : Rx β} (hA : Sim K A A') (hB : Sim K B B') : Sim K (if c then A else B) (if c then A' else B') := by split <;> assumption
theorem simA_acc {δ : Type} {P Q : Rx γ} {F G : δ → Rx β} (g : α → γ → δ) (h : Sim K P Q) (hP : Fine P) (kP : Tame P) (hf : SimA K F G) (tF : ∀ a, Tame (F a)) (tG : ∀ a, Tame (G a)) : SimA K (fun a => seq P fun x => F (g a x)) (fun a => seq Q fun x => G (g a x)) :=
  fun T r a a' hK ht h0 => by
    have ha := h T r hK ht
    cases hw : (P T r).2.wrong
    · obtain ⟨e1, e2⟩ := ha.ok hw
      show Agr (F (g a (P T r).1) T (P T r).2) (G (g a' (Q T r).1) T (Q T r).2)
      rw [e1]
      exact hf T _ _ _ hK (hP.top T r ht) (fun e => by rw [e2 e, h0 (kP.bad T r e)])
    · exact agr_wrong (tF _) (tG _) hw (by rw [ha.wrong, hw]) ha.at_
end
theorem var_state (r : Rd) (o : Option Tok) : (varF r o).2 = (variableF r o).2 := by
  unfold varF variableF
  by_cases hn : namedO o = true
  · rw [if_pos hn, if_pos hn]
    cases findF (textO o) r.vars <;> rfl
  · rw [if_neg hn, if_neg hn]
theorem var_value {r : Rd} {o : Option Tok} (h : (variableF r o).2.bad = none) : (varF r o).1 = (variableF r o).1 := by
  unfold variableF at h
  unfold varF variableF
  by_cases hn : namedO o = true
  · rw [if_pos hn] at h
    rw [if_pos hn, if_pos hn]
    cases hf : findF (textO o) r.vars with
    | some i => rfl
    | none =>
      exfalso
      rw [hf] at h
      cases hb : r.bad with
      | some p => rw [hb] at h; cases h
      | none =>
        rw [hb] at h
        cases o with
        | none => exact absurd rfl (named_some hn)
        | some t => cases h
  · rw [if_neg hn, if_neg hn]
theorem tame_variable : Tame (Pa.look variableF) :=
  ⟨fun T r h => by show (variableF r (next T r)).2.wrong = true; rw [← var_state]; exact tame_var.wrong T r h, fun T r h => by show (variableF r (next T r)).2.at_ = r.at_; rw [← var_state]; exact tame_var.stay T r h,
    fun T r h => tame_var.bad T r (by show (varF r (next T r)).2.bad = none; rw [var_state]; exact h), fun T r => by show r.at_ ≤ (variableF r (next T r)).2.at_; rw [← var_state]; exact tame_var.up T r⟩
theorem sim_var {K : Nat} : Sim K (Pa.look variableF) (Pa.look varF) := fun T r _ _ =>
  ⟨by show (varF r (next T r)).2.wrong = (variableF r (next T r)).2.wrong; rw [var_state], by show (varF r (next T r)).2.at_ = (variableF r (next T r)).2.at_; rw [var_state], fun _ => ⟨var_state r _, fun e => var_value e⟩⟩
/- the document's reader is tame, too -/
theorem tame_or (b : Bool) : Tame (orMinus b) := tame_if (tame_ret _) (tame_has (by decide))
theorem tame_terms : ∀ (n : Nat) (s : Int) (c : PCon), Tame (terms n s c)
  | 0, _, _ => tame_ret _
  | n + 1, _, _ => tame_seq (tame_tell _) fun _ => tame_seq (tame_factor _) fun _ => tame_seq tame_variable fun _ => tame_seq (tame_tell _) fun _ => tame_seq (tame_has (by decide)) fun _ => tame_seq (tame_or _) fun _ => tame_if (tame_terms n _ _) (tame_ret _)
theorem tame_sumR (K : Nat) (c : PCon) : Tame (sumR K c) := tame_seq (tame_has (by decide)) fun _ => tame_seq (tame_terms K _ c) fun d => tame_seq tame_rel fun i => tame_relate d i
theorem tame_names : ∀ (n m : Nat) (more : Bool) (c : PCon), Tame (namesR n m more c)
  | 0, _, _, _ => tame_ret _
  | n + 1, _, _, _ => tame_seq (tame_tell _) fun _ => tame_if (tame_seq tame_variable fun _ => tame_names n _ _ _) (tame_ret _)
theorem tame_numsR : ∀ (n m : Nat) (c : PCon), Tame (numsR n m c)
  | 0, _, _ => tame_ret _
  | n + 1, _, _ => tame_seq (tame_tell _) fun _ => tame_if (tame_seq tame_number fun _ => tame_numsR n _ _) (tame_ret _)
theorem tame_brackets (K m : Nat) (c : PCon) : Tame (brackets K m c) := tame_seq (tame_must (by decide)) fun _ => tame_seq (tame_numsR K m c) fun _ => tame_seq (tame_must (by decide)) fun _ => tame_ret _
theorem tame_conR (K : Nat) : Tame (conR K) := tame_seq (tame_tell _) fun _ => tame_if (tame_seq (tame_must (by decide)) fun _ => tame_names _ _ _ _) (tame_if (tame_seq (tame_must (by decide)) fun _ => tame_seq tame_variable fun _ => tame_sumR _ _)
  (tame_if (tame_seq (tame_must (by decide)) fun _ => tame_seq (tame_names _ _ _ _) fun _ => tame_brackets _ _ _) (tame_if (tame_seq (tame_must (by decide)) fun _ => tame_names _ _ _ _)
    (tame_if (tame_seq (tame_must (by decide)) fun _ => tame_seq (tame_names _ _ _ _) fun _ => tame_brackets _ _ _) (tame_sumR _ _)))))
theorem tame_andsR (K : Nat) : ∀ (n : Nat) (l : List PCon), Tame (andsR K n l)
  | 0, _ => tame_ret _
  | n + 1, _ => tame_seq (tame_has (by decide)) fun _ => tame_if (tame_seq (tame_conR K) fun _ => tame_andsR K n _) (tame_ret _)
theorem tame_listR (K : Nat) : Tame (listR K) := tame_seq (tame_has (by decide)) fun _ => tame_if (tame_ret _) (tame_seq (tame_conR K) fun _ => tame_andsR K K _)
theorem tame_ranges : ∀ (n : Nat) (l : List (Int × Int)), Tame (rangesR n l)
  | 0, _ => tame_ret _
  | n + 1, _ => tame_seq tame_number fun _ => tame_seq (tame_has (by decide)) fun _ => tame_seq (tame_high _ _) fun _ => tame_seq (tame_tell _) fun _ => tame_if (tame_ranges n _) (tame_ret _)
theorem tame_declOne (K : Nat) : Tame (declOne K) := tame_seq tame_name fun _ => tame_seq (tame_must (by decide)) fun _ => tame_seq (tame_ranges K _) fun _ => tame_seq (tame_add _) fun _ => tame_ret _
theorem tame_declsR (K : Nat) : ∀ (n : Nat) (l : List PDecl), Tame (declsR K n l)
  | 0, _ => tame_ret _
  | n + 1, _ => tame_seq tame_name fun _ => tame_seq (tame_must (by decide)) fun _ => tame_seq (tame_ranges K _) fun _ => tame_seq (tame_add _) fun _ => tame_seq (tame_has (by decide)) fun _ => tame_if (tame_declsR K n _) (tame_ret _)
theorem tame_whereR (K : Nat) (b : Bool) : Tame (whereR K b) := tame_if (tame_listR K) (tame_ret _)
theorem tame_blockR (K : Nat) : Tame (blockR K) := tame_seq (tame_has (by decide)) fun _ => tame_seq (tame_head _) fun _ => tame_seq (tame_declsR K K _) fun _ => tame_seq (tame_has (by decide)) fun _ => tame_seq (tame_whereR K _) fun _ => tame_seq (tame_must (by decide)) fun _ => tame_ret _
theorem tame_blocksR (K : Nat) : ∀ (n : Nat) (l : List PBlock), Tame (blocksR K n l)
  | 0, _ => tame_ret _
  | n + 1, _ => tame_seq (tame_blockR K) fun _ => tame_seq (tame_tell _) fun _ => tame_if (tame_blocksR K n _) (tame_ret _)

/- sums -/
def termR (s : Int) (c : PCon) : Rx PCon := seq (tell fun _ o => kindO o) fun k => seq (factor k) fun v => seq (Pa.look variableF) fun x => ret { c with coefs := c.coefs ++ [s * v], vars := c.vars ++ [x] }
theorem simA_term {K : Nat} (s : Int) : SimA K (termR s) (termQ s) :=
  simA_same (F := fun (c : PCon) k => seq (factor k) fun v => seq (Pa.look variableF) fun x => ret { c with coefs := c.coefs ++ [s * v], vars := c.vars ++ [x] }) (G := fun (c : PCon) k => seq (factor k) fun v => seq (Pa.look varF) fun x => ret { c with coefs := c.coefs ++ [s * v], vars := c.vars ++ [x] }) (fine_tell fun _ _ _ _ _ hk => (text_key hk).2.1) (tame_tell _) fun k =>
    simA_same (F := fun (c : PCon) v => seq (Pa.look variableF) fun x => ret { c with coefs := c.coefs ++ [s * v], vars := c.vars ++ [x] }) (G := fun (c : PCon) v => seq (Pa.look varF) fun x => ret { c with coefs := c.coefs ++ [s * v], vars := c.vars ++ [x] }) (fine_factor k) (tame_factor k) fun v =>
      simA_acc (F := ret) (G := ret) (fun (c : PCon) (x : Int) => ({ c with coefs := c.coefs ++ [s * v], vars := c.vars ++ [x] } : PCon)) sim_var (fine_look ok_variable) tame_variable (simA_ret id) (fun _ => tame_ret _) (fun _ => tame_ret _)
def relQ (c : PCon) : Rx PCon := seq (Pa.look relF) (relate c)
theorem tame_relQ (c : PCon) : Tame (relQ c) := tame_seq tame_rel fun i => tame_relate c i
theorem simA_rel {K : Nat} : SimA K relQ relQ := simA_same (fine_look ok_rel) tame_rel fun i => by
  cases i with
  | none => exact simA_ret id
  | some i => exact simA_same (F := fun (c : PCon) k => ret { c with rel := (i : Int), const := k }) (G := fun (c : PCon) k => ret { c with rel := (i : Int), const := k }) fine_number tame_number fun k => simA_ret (fun c : PCon => ({ c with rel := (i : Int), const := k } : PCon))
def tailT (n : Nat) (d : PCon) : Rx PCon := seq (tell fun _ o => if textO o = tMinus then (-1 : Int) else 1) fun s' => seq (Pa.look (hasF tPlus)) fun b => seq (orMinus b) fun b' => if b' = true then terms n s' d else ret d
theorem tame_tailT (n : Nat) (d : PCon) : Tame (tailT n d) := tame_seq (tame_tell _) fun _ => tame_seq (tame_has (by decide)) fun _ => tame_seq (tame_or _) fun _ => tame_if (tame_terms n _ _) (tame_ret _)
theorem termR_up (s : Int) (c : PCon) (T : List Tok) (r : Rd) : Went r (termR s c T r).2 :=
  ⟨Nat.le_trans ((tame_factor (kindO (next T r))).up T r) (variable_went (factor (kindO (next T r)) T r).2 (next T (factor (kindO (next T r)) T r).2)).up,
    (variable_went (factor (kindO (next T r)) T r).2 (next T (factor (kindO (next T r)) T r).2)).on.imp id fun e => Nat.lt_of_le_of_lt ((tame_factor (kindO (next T r))).up T r) e⟩
theorem fine_termR (s : Int) (c : PCon) : Fine (termR s c) := fine_seq (fine_tell fun _ _ _ _ _ hk => (text_key hk).2.1) fun k => fine_seq (fine_factor k) fun _ => fine_seq (fine_look ok_variable) fun _ => fine_ret _
theorem has_pos {s : Txt} {r : Rd} {o : Option Tok} (h : textO o = s) : hasF s r o = (true, step1 r) := by unfold hasF; rw [if_pos h]
theorem has_neg {s : Txt} {r : Rd} {o : Option Tok} (h : textO o ≠ s) : hasF s r o = (false, r) := by unfold hasF; rw [if_neg h]
theorem sim_terms : ∀ (n : Nat) (s : Int) (T : List Tok) (r : Rd) (c c' : PCon), Fuel T.length n r → r.at_ ≤ T.length → (r.bad = none → c' = c) → Agr (seq (terms n s c) relQ T r) (seq (termQ s c') (restQ n) T r)
  | 0, s, T, r, c, c', hf, ht, hc => by
    have hw : r.wrong = true := by
      rcases hf with e | e
      · exact e
      · omega
    exact agr_wrong (tame_seq (tame_terms 0 s c) tame_relQ) (tame_seq (tame_term s c') (tame_rest 0)) hw hw rfl
  | n + 1, s, T, r, c, c', hf, ht, hc => by
    cases hw : r.wrong
    case true => exact agr_wrong (tame_seq (tame_terms (n + 1) s c) tame_relQ) (tame_seq (tame_term s c') (tame_rest (n + 1))) hw hw rfl
    have ha := simA_term (K := T.length + 1) s T r c c' (by omega) ht hc
    have htop := (fine_termR s c).top T r ht
    have hup := termR_up s c T r
    show Agr (seq (tailT n (termR s c T r).1) relQ T (termR s c T r).2) (restQ (n + 1) (termQ s c' T r).1 T (termQ s c' T r).2)
    obtain ⟨x, hx⟩ : ∃ x, x = termR s c T r := ⟨_, rfl⟩
    obtain ⟨y, hy⟩ : ∃ y, y = termQ s c' T r := ⟨_, rfl⟩
    rw [← hx, ← hy] at ha
    rw [← hx] at htop hup
    rw [← hx, ← hy]
    obtain ⟨d, r1⟩ := x
    obtain ⟨d', q1⟩ := y
    simp only at htop hup
    cases hw1 : r1.wrong
    case true => exact agr_wrong (tame_seq (tame_tailT n d) tame_relQ) (tame_rest (n + 1) d') hw1 (by have := ha.wrong; simp only at this; rw [this, hw1]) ha.at_
    obtain ⟨e1, e2⟩ := ha.ok hw1
    simp only at e1 e2
    subst e1
    have hfu : Fuel T.length n (step1 q1) := by
      rcases hf with e | e
      · rw [hw] at e; cases e
      · have := hup.up
        exact .inr (by simp [step1]; omega)
    have hlt : q1.at_ < T.length → (step1 q1).at_ ≤ T.length := fun h => by simp [step1]; omega
    by_cases hp : textO (next T q1) = tPlus
    · have hm : textO (next T q1) ≠ tMinus := by rw [hp]; decide
      have hin := next_some (T := T) (r := q1) (text_some hp (by decide))
      have e3 : seq (tailT n d) relQ T q1 = seq (terms n 1 d) relQ T (step1 q1) := by
        simp only [seq, tailT, tell, Pa.look, has_pos hp, orMinus, if_neg hm, if_true, ret]
      have e4 : restQ (n + 1) d' T q1 = seq (termQ 1 d') (restQ n) T (step1 q1) := by
        simp only [restQ, seq, Pa.look, has_pos hp, if_true]
      rw [e3, e4]
      exact sim_terms n 1 T (step1 q1) d d' hfu (hlt hin) (fun e => e2 e)
    · by_cases hm : textO (next T q1) = tMinus
      · have hin := next_some (T := T) (r := q1) (text_some hm (by decide))
        have e3 : seq (tailT n d) relQ T q1 = seq (terms n (-1) d) relQ T (step1 q1) := by
          simp only [seq, tailT, tell, Pa.look, has_neg hp, has_pos hm, orMinus, if_pos hm, if_true, Bool.false_eq_true, if_false]
        have e4 : restQ (n + 1) d' T q1 = seq (termQ (-1) d') (restQ n) T (step1 q1) := by
          simp only [restQ, seq, Pa.look, has_neg hp, has_pos hm, if_true, Bool.false_eq_true, if_false]
        rw [e3, e4]
        exact sim_terms n (-1) T (step1 q1) d d' hfu (hlt hin) (fun e => e2 e)
      · have e3 : seq (tailT n d) relQ T q1 = relQ d T q1 := by
          show (fun q : Bool × Rd => (fun q2 : Bool × Rd => relQ ((if q2.1 = true then terms n (if textO (next T q1) = tMinus then (-1 : Int) else 1) d else ret d) T q2.2).1 T ((if q2.1 = true then terms n (if textO (next T q1) = tMinus then (-1 : Int) else 1) d else ret d) T q2.2).2) (orMinus q.1 T q.2)) (hasF tPlus q1 (next T q1)) = _
          rw [has_neg hp]
          show (fun q2 : Bool × Rd => relQ ((if q2.1 = true then terms n (if textO (next T q1) = tMinus then (-1 : Int) else 1) d else ret d) T q2.2).1 T ((if q2.1 = true then terms n (if textO (next T q1) = tMinus then (-1 : Int) else 1) d else ret d) T q2.2).2) (hasF tMinus q1 (next T q1)) = _
          rw [has_neg hm]
          rfl
        have e4 : restQ (n + 1) d' T q1 = relQ d' T q1 := by
          simp only [restQ, seq, Pa.look, has_neg hp, has_neg hm, Bool.false_eq_true, if_false, relQ]
        rw [e3, e4]
        exact simA_rel (K := T.length + 1) T q1 d d' (by omega) htop (fun e => e2 e)
theorem fuel_start {n K : Nat} {r : Rd} (h : n < K) : Fuel n K r := .inr (by omega)
theorem simA_sum {K : Nat} : SimA K (sumR K) (sumQ K) := simA_same (F := fun (c : PCon) b => seq (terms K (if b = true then -1 else 1) c) fun d => seq (Pa.look relF) fun i => relate d i) (G := fun (c : PCon) b => seq (termQ (if b = true then -1 else 1) c) (restQ K)) (fine_look (ok_has (by decide))) (tame_has (by decide)) fun b => fun T r c c' hK ht hc => sim_terms K _ T r c c' (fuel_start hK) ht hc
end Go.Proofs.YtkgieaoahijheaaGreatDoor.Pp
namespace Go.Proofs.YtkgieaoahijheaaGreatDoor.Pp
open Sc (Tok)
open Pa
set_option maxRecDepth 100000

theorem fuel_keep {n j : Nat} {r r' : Rd} (h : Fuel n j r) (hw : r.wrong = false) (hg : Went r r') : Fuel n j r' := by
  rcases h with e | e
  · rw [hw] at e; cases e
  · have := hg.up
    exact .inr (by omega)
theorem more_eqQ (j : Nat) (l : List Int) (T : List Tok) (r : Rd) : moreQ (j + 1) l T r = if namedO (next T r) = true then moreQ j (l ++ [(varF r (next T r)).1]) T (varF r (next T r)).2 else (l, r) := by
  show (if namedO (next T r) = true then seq (Pa.look varF) fun x => moreQ j (l ++ [x]) else ret l) T r = _
  rw [if_app]
  rfl
theorem bad_var {T : List Tok} {r : Rd} (h : (variableF r (next T r)).2.bad = none) : r.bad = none := tame_variable.bad T r h
theorem sim_more : ∀ (n k : Nat) (c0 : PCon) (T : List Tok) (r : Rd) (l l' : List Int), Fuel T.length n r → Fuel T.length k r → r.at_ ≤ T.length → (r.bad = none → l' = l) → Agr (namesR n 0 true { c0 with vars := l } T r) ((seq (moreQ k l') fun l => ret { c0 with vars := l }) T r)
  | 0, k, c0, T, r, l, l', hf, _, ht, _ => by
    have hw : r.wrong = true := by
      rcases hf with e | e
      · exact e
      · omega
    exact agr_wrong (tame_names 0 0 true _) (tame_seq (tame_more k l') fun _ => tame_ret _) hw hw rfl
  | n + 1, k, c0, T, r, l, l', hf, hk, ht, hl => by
    cases hw : r.wrong
    case true => exact agr_wrong (tame_names (n + 1) 0 true _) (tame_seq (tame_more k l') fun _ => tame_ret _) hw hw rfl
    obtain ⟨k', rfl⟩ := fuel_pos hk hw ht
    rw [names_eq]
    have e2 : (seq (moreQ (k' + 1) l') fun l => ret { c0 with vars := l }) T r = (if namedO (next T r) = true then (seq (moreQ k' (l' ++ [(varF r (next T r)).1])) fun l => ret { c0 with vars := l }) T (varF r (next T r)).2 else ({ c0 with vars := l' }, r)) := by
      show (({ c0 with vars := (moreQ (k' + 1) l' T r).1 } : PCon), (moreQ (k' + 1) l' T r).2) = _
      rw [more_eqQ]
      split <;> rfl
    rw [e2]
    have hg : goN 0 true T r = namedO (next T r) := by unfold goN; simp
    rw [hg]
    by_cases hn : namedO (next T r) = true
    · rw [if_pos hn, if_pos hn, var_state]
      exact sim_more n k' c0 T _ _ _ (fuel_on hf hw (variable_went _ _)) (fuel_on hk hw (variable_went _ _)) ((fine_look ok_variable).top T r ht) (fun e => by rw [hl (bad_var e), var_value e])
    · rw [if_neg hn, if_neg hn]
      exact ⟨rfl, rfl, fun _ => ⟨rfl, fun e => by simp only; rw [hl e]⟩⟩
def tailM (k : Nat) (more : Bool) (l : List Int) : Rx (List Int) := if more = true then moreQ k l else ret l
theorem tame_tailM (k : Nat) (more : Bool) (l : List Int) : Tame (tailM k more l) := tame_if (tame_more k l) (tame_ret l)
theorem sim_names : ∀ (m n k : Nat) (more : Bool) (c0 : PCon) (T : List Tok) (r : Rd) (l l' : List Int), Fuel T.length n r → Fuel T.length k r → r.at_ ≤ T.length → (r.bad = none → l' = l) → Agr (namesR n m more { c0 with vars := l } T r) ((seq (varsQ m l') fun l => seq (tailM k more l) fun l => ret { c0 with vars := l }) T r)
  | 0, n, k, more, c0, T, r, l, l', hf, hk, ht, hl => by
    cases more
    · have e1 : namesR n 0 false { c0 with vars := l } T r = ({ c0 with vars := l }, r) := by
        cases n with
        | zero => rfl
        | succ n =>
          rw [names_eq, if_neg (by unfold goN; simp)]
      rw [e1]
      exact ⟨rfl, rfl, fun _ => ⟨rfl, fun e => by show ({ c0 with vars := l' } : PCon) = _; rw [hl e]⟩⟩
    · exact sim_more n k c0 T r l l' hf hk ht hl
  | m + 1, n, k, more, c0, T, r, l, l', hf, hk, ht, hl => by
    cases hw : r.wrong
    case true => exact agr_wrong (tame_names n (m + 1) more _) (tame_seq (tame_vars (m + 1) l') fun _ => tame_seq (tame_tailM k more _) fun _ => tame_ret _) hw hw rfl
    obtain ⟨n', rfl⟩ := fuel_pos hf hw ht
    rw [names_eq, if_pos (by unfold goN; rw [hw]; simp)]
    show Agr _ ((seq (varsQ m (l' ++ [(varF r (next T r)).1])) fun l => seq (tailM k more l) fun l => ret { c0 with vars := l }) T (varF r (next T r)).2)
    rw [var_state]
    exact sim_names m n' k more c0 T _ _ _ (fuel_on hf hw (variable_went _ _)) (fuel_keep hk hw (variable_went _ _)) ((fine_look ok_variable).top T r ht) (fun e => by rw [hl (bad_var e), var_value e])
theorem names_nums : ∀ (n m : Nat) (more : Bool) (c : PCon) (T : List Tok) (r : Rd), (namesR n m more c T r).1.nums = c.nums
  | 0, _, _, _, _, _ => rfl
  | n + 1, m, more, c, T, r => by
    rw [names_eq]
    split
    · rw [names_nums n]
    · rfl
theorem restN_eqQ (k j : Nat) (l : List Int) (T : List Tok) (r : Rd) : restN k (j + 1) l T r = if l.length < k then restN k j (l ++ [(number T r).1]) T (number T r).2 else if (hasF tShut r (next T r)).1 = true then (l, (hasF tShut r (next T r)).2) else restN k j (l ++ [(number T (hasF tShut r (next T r)).2).1]) T (number T (hasF tShut r (next T r)).2).2 := by
  show (if l.length < k then seq number fun x => restN k j (l ++ [x]) else seq (Pa.look (hasF tShut)) fun b => if b = true then ret l else seq number fun x => restN k j (l ++ [x])) T r = _
  rw [if_app]
  split
  · rfl
  · show (if (hasF tShut r (next T r)).1 = true then ret l else seq number fun x => restN k j (l ++ [x])) T (hasF tShut r (next T r)).2 = _
    rw [if_app]
    split <;> rfl
def shutR (n m : Nat) (c : PCon) : Rx PCon := seq (numsR n m c) fun d => seq (Pa.look (mustF tShut)) fun _ => ret d
def fillQ (m k : Nat) (c : PCon) (l : List Int) : Rx PCon := seq (restN m k l) fun l => ret { c with nums := l }
theorem tame_shutR (n m : Nat) (c : PCon) : Tame (shutR n m c) := tame_seq (tame_numsR n m c) fun _ => tame_seq (tame_must (by decide)) fun _ => tame_ret _
theorem tame_fillQ (m k : Nat) (c : PCon) (l : List Int) : Tame (fillQ m k c l) := tame_seq (tame_restN m k l) fun _ => tame_ret _
theorem sim_nums (m : Nat) : ∀ (n k : Nat) (c c' : PCon) (T : List Tok) (r : Rd) (l : List Int), Fuel T.length n r → Fuel T.length k r → r.at_ ≤ T.length → (r.bad = none → c' = c) → Agr (shutR n (m - l.length) { c with nums := l } T r) (fillQ m k c' l T r)
  | 0, k, c, c', T, r, l, hf, _, ht, _ => by
    have hw : r.wrong = true := by
      rcases hf with e | e
      · exact e
      · omega
    exact agr_wrong (tame_shutR _ _ _) (tame_fillQ _ _ _ _) hw hw rfl
  | n + 1, k, c, c', T, r, l, hf, hk, ht, hc => by
    cases hw : r.wrong
    case true => exact agr_wrong (tame_shutR _ _ _) (tame_fillQ _ _ _ _) hw hw rfl
    obtain ⟨k', rfl⟩ := fuel_pos hk hw ht
    have hbad : (number T r).2.bad = none → r.bad = none := tame_number.bad T r
    have hnum := sim_nums m n k' c c' T (number T r).2 (l ++ [(number T r).1]) (fuel_on hf hw (number_went T r)) (fuel_on hk hw (number_went T r)) (fine_number.top T r ht) (fun e => hc (hbad e))
    have hgo : goM (m - l.length) T r = (decide (l.length < m) || !decide (textO (next T r) = tShut)) := by
      unfold goM
      rw [hw]
      rw [show decide (0 < m - l.length) = decide (l.length < m) from decide_eq_decide.2 (by omega)]
      simp
    have e1 : shutR (n + 1) (m - l.length) { c with nums := l } T r = if goM (m - l.length) T r = true then shutR n (m - (l ++ [(number T r).1]).length) { c with nums := l ++ [(number T r).1] } T (number T r).2 else (({ c with nums := l } : PCon), (mustF tShut r (next T r)).2) := by
      show ((numsR (n + 1) (m - l.length) { c with nums := l } T r).1, (mustF tShut (numsR (n + 1) (m - l.length) { c with nums := l } T r).2 (next T (numsR (n + 1) (m - l.length) { c with nums := l } T r).2)).2) = _
      rw [nums_eq]
      split
      · rw [List.length_append, List.length_cons, List.length_nil, Nat.zero_add, ← Nat.sub_sub]
        rfl
      · rfl
    have e2 : fillQ m (k' + 1) c' l T r = if l.length < m then fillQ m k' c' (l ++ [(number T r).1]) T (number T r).2 else if (hasF tShut r (next T r)).1 = true then ({ c' with nums := l }, (hasF tShut r (next T r)).2) else fillQ m k' c' (l ++ [(number T (hasF tShut r (next T r)).2).1]) T (number T (hasF tShut r (next T r)).2).2 := by
      show (({ c' with nums := (restN m (k' + 1) l T r).1 } : PCon), (restN m (k' + 1) l T r).2) = _
      rw [restN_eqQ]
      split
      · rfl
      · split <;> rfl
    rw [e1, e2, hgo]
    by_cases hlm : l.length < m
    · rw [if_pos hlm, if_pos (by rw [decide_eq_true hlm]; rfl)]
      exact hnum
    · rw [if_neg hlm]
      by_cases hs : textO (next T r) = tShut
      · rw [if_neg (by rw [decide_eq_false hlm, decide_eq_true hs]; simp), has_pos hs, must_step hs]
        exact ⟨rfl, rfl, fun _ => ⟨rfl, fun e => by show ({ c' with nums := l } : PCon) = _; rw [hc e]⟩⟩
      · rw [if_pos (by rw [decide_eq_false hlm, decide_eq_false hs]; simp), has_neg hs]
        exact hnum
theorem sim_table {K m : Nat} {T : List Tok} {r : Rd} {c c' : PCon} (hK : T.length < K) (ht : r.at_ ≤ T.length) (h1 : c.nums = []) (hc : r.bad = none → c' = c) : Agr (brackets K m c T r) (tableQ K m c' T r) := by
  have e : c = { c with nums := [] } := by cases c; simp only at h1; rw [h1]
  have htop := (fine_look (ok_must (s := tOpen) (by decide))).top T r ht
  have h := sim_nums m K K c c' T (mustF tOpen r (next T r)).2 [] (fuel_start hK) (fuel_start hK) htop (fun b => hc ((tame_must (s := tOpen) (by decide)).bad T r b))
  rw [← e] at h
  exact h
/-- names, then what stands behind them -/
theorem sim_then {K m q : Nat} {more : Bool} {T : List Tok} {r : Rd} {f g : PCon → Rx PCon} (hK : T.length < K) (ht : r.at_ ≤ T.length) (tf : ∀ c, Tame (f c)) (tg : ∀ c, Tame (g c))
    (h : ∀ r' c c', r'.at_ ≤ T.length → c.nums = [] → (r'.bad = none → c' = c) → Agr (f c T r') (g c' T r')) : Agr (seq (namesR K m more (conOf q)) f T r) ((seq (varsQ m []) fun l => seq (tailM K more l) fun l => g { conOf q with vars := l }) T r) := by
  have ha := sim_names m K K more (conOf q) T r [] [] (fuel_start hK) (fuel_start hK) ht (fun _ => rfl)
  have hnn := names_nums K m more (conOf q) T r
  have htop := (fine_names K m more (conOf q)).top T r ht
  rw [show ({ conOf q with vars := [] } : PCon) = conOf q from rfl] at ha
  obtain ⟨x, hx⟩ : ∃ x, x = namesR K m more (conOf q) T r := ⟨_, rfl⟩
  obtain ⟨y, hy⟩ : ∃ y, y = (seq (varsQ m []) fun l => tailM K more l) T r := ⟨_, rfl⟩
  rw [show (seq (varsQ m []) fun l => seq (tailM K more l) fun l => ret { conOf q with vars := l }) T r = (({ conOf q with vars := y.1 } : PCon), y.2) by rw [hy]; rfl, ← hx] at ha
  rw [← hx] at hnn htop
  show Agr (f (namesR K m more (conOf q) T r).1 T (namesR K m more (conOf q) T r).2) (g { conOf q with vars := ((seq (varsQ m []) fun l => tailM K more l) T r).1 } T ((seq (varsQ m []) fun l => tailM K more l) T r).2)
  rw [← hx, ← hy]
  cases hw : x.2.wrong
  · obtain ⟨e1, e2⟩ := ha.ok hw
    simp only at e1 e2
    rw [e1]
    exact h _ _ _ htop hnn e2
  · exact agr_wrong (tf _) (tg _) hw (by have := ha.wrong; simp only at this; rw [this, hw]) ha.at_
theorem conQ_1 {K : Nat} {T : List Tok} {r : Rd} (h : textO (next T r) = tProduct) : conQ K T r = (seq (varsQ 3 []) fun l => seq (tailM K false l) fun l => ret { conOf 2 with vars := l }) T (step1 r) := by
  simp only [conQ, seq, Pa.look, has_pos h, if_true]
  rfl
theorem conQ_2 {K : Nat} {T : List Tok} {r : Rd} (h : textO (next T r) = tIff) : conQ K T r = sumQ K { conOf 3 with vars := [(varF (step1 r) (next T (step1 r))).1] } T (varF (step1 r) (next T (step1 r))).2 := by
  have n1 : textO (next T r) ≠ tProduct := by rw [h]; decide
  simp only [conQ, seq, Pa.look, has_neg n1, has_pos h, if_true, Bool.false_eq_true, if_false]
  rfl
theorem conQ_3 {K : Nat} {T : List Tok} {r : Rd} (h : textO (next T r) = tElement) : conQ K T r = (seq (varsQ 2 []) fun l => seq (tailM K false l) fun l => tableQ K 1 { conOf 4 with vars := l }) T (step1 r) := by
  have n1 : textO (next T r) ≠ tProduct := by rw [h]; decide
  have n2 : textO (next T r) ≠ tIff := by rw [h]; decide
  simp only [conQ, seq, Pa.look, has_neg n1, has_neg n2, has_pos h, if_true, Bool.false_eq_true, if_false]
  rfl
theorem conQ_4 {K : Nat} {T : List Tok} {r : Rd} (h : textO (next T r) = tDifferent) : conQ K T r = (seq (varsQ 2 []) fun l => seq (tailM K true l) fun l => ret { conOf 5 with vars := l }) T (step1 r) := by
  have n1 : textO (next T r) ≠ tProduct := by rw [h]; decide
  have n2 : textO (next T r) ≠ tIff := by rw [h]; decide
  have n3 : textO (next T r) ≠ tElement := by rw [h]; decide
  simp only [conQ, seq, Pa.look, has_neg n1, has_neg n2, has_neg n3, has_pos h, if_true, Bool.false_eq_true, if_false]
  rfl
theorem conQ_5 {K : Nat} {T : List Tok} {r : Rd} (h : textO (next T r) = tTable) : conQ K T r = (seq (varsQ 1 []) fun l => seq (tailM K true l) fun l => tableQ K 0 { conOf 6 with vars := l }) T (step1 r) := by
  have n1 : textO (next T r) ≠ tProduct := by rw [h]; decide
  have n2 : textO (next T r) ≠ tIff := by rw [h]; decide
  have n3 : textO (next T r) ≠ tElement := by rw [h]; decide
  have n4 : textO (next T r) ≠ tDifferent := by rw [h]; decide
  simp only [conQ, seq, Pa.look, has_neg n1, has_neg n2, has_neg n3, has_neg n4, has_pos h, if_true, Bool.false_eq_true, if_false]
  rfl
theorem conQ_6 {K : Nat} {T : List Tok} {r : Rd} (n1 : textO (next T r) ≠ tProduct) (n2 : textO (next T r) ≠ tIff) (n3 : textO (next T r) ≠ tElement) (n4 : textO (next T r) ≠ tDifferent) (n5 : textO (next T r) ≠ tTable) : conQ K T r = sumQ K (conOf 1) T r := by
  simp only [conQ, seq, Pa.look, has_neg n1, has_neg n2, has_neg n3, has_neg n4, has_neg n5, Bool.false_eq_true, if_false]
theorem tame_tailR (K : Nat) (nu : Int) (c : PCon) : Tame (tailR K nu c) := tame_if (tame_ret _) (tame_brackets _ _ _)
theorem sim_con {K : Nat} : Sim K (conR K) (conQ K) := fun T r hK ht => by
  have hin : ∀ s : Txt, s ≠ [] → textO (next T r) = s → (step1 r).at_ ≤ T.length := fun s hs h => by
    have := next_some (T := T) (r := r) (text_some h hs)
    simp [step1]; omega
  by_cases h1 : textO (next T r) = tProduct
  · rw [Pa.con_product h1, conQ_1 h1]
    exact sim_then hK (hin _ (by decide) h1) (fun c => tame_tailR K (-1) c) (fun c => tame_ret c) fun r' c c' _ _ hb => by
      rw [tail_none (by decide)]
      exact ⟨rfl, rfl, fun _ => ⟨rfl, fun e => hb e⟩⟩
  by_cases h2 : textO (next T r) = tIff
  · rw [Pa.con_iff h2, conQ_2 h2, var_state]
    exact simA_sum T _ _ _ hK ((fine_look ok_variable).top T _ (hin _ (by decide) h2)) (fun e => by rw [var_value e])
  by_cases h3 : textO (next T r) = tElement
  · rw [Pa.con_element h3, conQ_3 h3]
    exact sim_then hK (hin _ (by decide) h3) (fun c => tame_tailR K 1 c) (fun c => tame_table K 1 c) fun r' c c' ht' hn hb => sim_table (m := 1) hK ht' hn hb
  by_cases h4 : textO (next T r) = tDifferent
  · rw [Pa.con_different h4, conQ_4 h4]
    exact sim_then hK (hin _ (by decide) h4) (fun c => tame_tailR K (-1) c) (fun c => tame_ret c) fun r' c c' _ _ hb => by
      rw [tail_none (by decide)]
      exact ⟨rfl, rfl, fun _ => ⟨rfl, fun e => hb e⟩⟩
  by_cases h5 : textO (next T r) = tTable
  · rw [Pa.con_table h5, conQ_5 h5]
    exact sim_then hK (hin _ (by decide) h5) (fun c => tame_tailR K 0 c) (fun c => tame_table K 0 c) fun r' c c' ht' hn hb => sim_table (m := 0) hK ht' hn hb
  rw [Pa.con_sum h1 h2 h3 h4 h5, conQ_6 h1 h2 h3 h4 h5]
  exact simA_sum T r _ _ hK ht fun _ => rfl
theorem simA_ands {K : Nat} : ∀ n : Nat, SimA K (andsR K n) (andsQ K n)
  | 0 => simA_ret id
  | n + 1 => simA_same (F := fun (l : List PCon) b => if b = true then seq (conR K) fun c => andsR K n (l ++ [c]) else ret l) (G := fun (l : List PCon) b => if b = true then seq (conQ K) fun c => andsQ K n (l ++ [c]) else ret l) (fine_look (ok_has (by decide))) (tame_has (by decide)) fun b =>
    simA_if (simA_acc (F := andsR K n) (G := andsQ K n) (fun (l : List PCon) (c : PCon) => l ++ [c]) sim_con (fine_con K) (tame_conR K) (simA_ands n) (tame_andsR K n) (tame_ands K n)) (simA_ret id)
theorem sim_list {K : Nat} : Sim K (listR K) (listQ K) := sim_same (fine_look (ok_has (by decide))) fun b => sim_if (sim_refl _) (sim_seq sim_con (fine_con K) (f := fun c => andsR K K [c]) (g := fun c => andsQ K K [c]) (fun T r a a' hK ht h => simA_ands K T r [a] [a'] hK ht (fun e => by rw [h e])) (fun _ => tame_andsR K K _) (fun _ => tame_ands K K _))
end Go.Proofs.YtkgieaoahijheaaGreatDoor.Pp
