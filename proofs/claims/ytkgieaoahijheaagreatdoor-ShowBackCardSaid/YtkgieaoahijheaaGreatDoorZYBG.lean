/-
  What the program's parser takes in is what the document's reader takes in: variables, blocks, models. Nothing of the program.
  What comes of tokens that the program's parser reads. Nothing of the program.
  What Scan of the program answers, at every text.
-/
import Derived.Test.YtkgieaoahijheaaGreatDoorZYBF
import Derived.Test.YtkgieaoahijheaaGreatDoorZYAE
import Derived.Test.YtkgieaoahijheaaGreatDoorZYAX
import Derived.Test.YtkgieaoahijheaaGreatDoorZYAT
namespace Go.Proofs.YtkgieaoahijheaaGreatDoor.Pp
open Sc (Tok)
open Pa
set_option maxRecDepth 100000

theorem spans_eqQ (j : Nat) (l : List (Int × Int)) (T : List Tok) (r : Rd) : spansQ (j + 1) l T r = if moreD T r = true then spansQ j (l ++ [(rangeOne T r).1]) T (rangeOne T r).2 else (l, r) := by
  show (if moreD T r = true then seq rangeOne fun d => spansQ j (l ++ [d]) else ret l) T r = _
  rw [if_app]
  rfl
theorem sim_ranges : ∀ (n k : Nat) (l : List (Int × Int)) (T : List Tok) (r : Rd), Fuel T.length n r → Fuel T.length k r → r.at_ ≤ T.length → Agr (rangesR n l T r) ((seq rangeOne fun d => spansQ k (l ++ [d])) T r)
  | 0, k, l, T, r, hf, _, ht => by
    have hw : r.wrong = true := by
      rcases hf with e | e
      · exact e
      · omega
    exact agr_wrong (tame_ranges 0 l) (tame_seq tame_one fun _ => tame_spans k _) hw hw rfl
  | n + 1, k, l, T, r, hf, hk, ht => by
    cases hw : r.wrong
    case true => exact agr_wrong (tame_ranges (n + 1) l) (tame_seq tame_one fun _ => tame_spans k _) hw hw rfl
    have hg := range_went T r
    have htop : (rangeOne T r).2.at_ ≤ T.length := (fine_seq fine_number fun lo => fine_seq (fine_look (ok_has (s := tDots) (by decide))) fun b => fine_seq (fine_high b lo) fun hi => fine_ret (lo, hi)).top T r ht
    rw [ranges_eq]
    show Agr _ (spansQ k (l ++ [(rangeOne T r).1]) T (rangeOne T r).2)
    cases hw1 : (rangeOne T r).2.wrong
    case true =>
      have hm : moreD T (rangeOne T r).2 = false := by
        cases h : moreD T (rangeOne T r).2
        · rfl
        · rw [more_right h] at hw1; cases hw1
      rw [if_neg (by rw [hm]; simp)]
      exact ⟨by rw [(tame_spans k _).wrong T _ hw1]; exact hw1.symm, (tame_spans k _).stay T _ hw1, fun h => by simp only at h; rw [hw1] at h; cases h⟩
    obtain ⟨k', rfl⟩ := fuel_pos (fuel_keep hk hw hg) hw1 htop
    rw [spans_eqQ]
    by_cases hm : moreD T (rangeOne T r).2 = true
    · rw [if_pos hm, if_pos hm]
      exact sim_ranges n k' _ T _ (fuel_on hf hw hg) (by
        rcases hk with e | e
        · rw [hw] at e; cases e
        · have := hg.on
          rcases this with e2 | e2
          · rw [hw1] at e2; cases e2
          · exact .inr (by omega)) htop
    · rw [if_neg hm, if_neg hm]
      exact Agr.refl _
/- names of variables turn nothing but themselves -/
def setV (s : List Txt) (r : Rd) : Rd := { r with vars := s }
def Blind {α : Type} (P : Rx α) : Prop := ∀ T r s, P T (setV s r) = ((P T r).1, setV s (P T r).2)
theorem blind_ret {α : Type} (a : α) : Blind (ret a) := fun _ _ _ => rfl
theorem blind_seq {α β : Type} {m : Rx α} {f : α → Rx β} (hm : Blind m) (hf : ∀ a, Blind (f a)) : Blind (seq m f) := fun T r s => by
  show f (m T (setV s r)).1 T (m T (setV s r)).2 = _
  rw [hm T r s]
  exact hf _ T _ s
theorem blind_if {α : Type} {c : Prop} [Decidable c] {A B : Rx α} (hA : Blind A) (hB : Blind B) : Blind (if c then A else B) := by split <;> assumption
theorem blind_look {α : Type} {f : Rd → Option Tok → α × Rd} (h : ∀ r o s, f (setV s r) o = ((f r o).1, setV s (f r o).2)) : Blind (Pa.look f) := fun T r s => h r (next T r) s
theorem blind_must (t : Txt) : Blind (Pa.look (mustF t)) := blind_look fun r o s => by unfold mustF; split <;> rfl
theorem blind_has (t : Txt) : Blind (Pa.look (hasF t)) := blind_look fun r o s => by unfold hasF; split <;> rfl
theorem blind_value : Blind (Pa.look valueF) := blind_look fun r o s => by unfold valueF; split <;> rfl
theorem blind_tell {α : Type} {f : Rd → Option Tok → α} (h : ∀ r o s, f (setV s r) o = f r o) : Blind (tell f) := blind_look fun r o s => by rw [h]
theorem blind_number : Blind number := blind_seq (blind_has _) fun _ => blind_if (blind_seq blind_value fun _ => blind_ret _) blind_value
theorem blind_one : Blind rangeOne := blind_seq blind_number fun _ => blind_seq (blind_has _) fun _ => blind_seq (blind_if blind_number (blind_ret _)) fun _ => blind_ret _
theorem blind_spans : ∀ (n : Nat) (l : List (Int × Int)), Blind (spansQ n l)
  | 0, _ => blind_ret _
  | n + 1, _ => blind_seq (blind_tell fun _ _ _ => rfl) fun _ => blind_if (blind_seq blind_one fun _ => blind_spans n _) (blind_ret _)
theorem keeps {α : Type} {P : Rx α} (h : Blind P) (T : List Tok) (r : Rd) : (P T r).2.vars = r.vars := by
  have e := h T r r.vars
  rw [show setV r.vars r = r from rfl] at e
  exact congrArg (fun q : α × Rd => q.2.vars) e
def inOne (K : Nat) : Rx (List (Int × Int)) := seq (Pa.look (mustF tIn)) fun _ => seq rangeOne fun d => spansQ K [d]
theorem blind_in (K : Nat) : Blind (inOne K) := blind_seq (blind_must _) fun _ => blind_seq blind_one fun _ => blind_spans K _
theorem tame_in (K : Nat) : Tame (inOne K) := tame_seq (tame_must (by decide)) fun _ => tame_seq tame_one fun _ => tame_spans K _
theorem sim_decl {K : Nat} : Sim K (declOne K) (declQ K) := fun T r hK ht => by
  obtain ⟨x, hx⟩ : ∃ x, x = nameF r (next T r) := ⟨_, rfl⟩
  have htop : x.2.at_ ≤ T.length := by rw [hx]; exact (fine_look ok_name).top T r ht
  show Agr ((seq (Pa.look (mustF tIn)) fun _ => seq (rangesR K []) fun dom => seq (addVar (nameF r (next T r)).1) fun _ => ret (⟨(nameF r (next T r)).1, dom⟩ : PDecl)) T (nameF r (next T r)).2) ((seq (addVar (nameF r (next T r)).1) fun _ => seq (inOne K) fun dom => ret (⟨(nameF r (next T r)).1, dom⟩ : PDecl)) T (nameF r (next T r)).2)
  rw [← hx]
  obtain ⟨s, r1⟩ := x
  simp only at htop ⊢
  have hm := (fine_look (ok_must (s := tIn) (by decide))).top T r1 htop
  have ha := sim_ranges K K [] T (mustF tIn r1 (next T r1)).2 (fuel_start hK) (fuel_start hK) hm
  have ha2 : Agr (rangesR K [] T (mustF tIn r1 (next T r1)).2) (inOne K T r1) := ha
  have hq : (seq (addVar s) fun _ => seq (inOne K) fun dom => ret (⟨s, dom⟩ : PDecl)) T r1 = (⟨s, (inOne K T r1).1⟩, setV (r1.vars ++ [s]) (inOne K T r1).2) := by
    show (((⟨s, (inOne K T (setV (r1.vars ++ [s]) r1)).1⟩ : PDecl), (inOne K T (setV (r1.vars ++ [s]) r1)).2)) = _
    rw [blind_in K T r1 (r1.vars ++ [s])]
  rw [hq]
  have hv : (inOne K T r1).2.vars = r1.vars := keeps (blind_in K) T r1
  obtain ⟨y, hy⟩ : ∃ y, y = rangesR K [] T (mustF tIn r1 (next T r1)).2 := ⟨_, rfl⟩
  rw [← hy] at ha2
  rw [show (seq (Pa.look (mustF tIn)) fun _ => seq (rangesR K []) fun dom => seq (addVar s) fun _ => ret (⟨s, dom⟩ : PDecl)) T r1 = (⟨s, y.1⟩, setV (y.2.vars ++ [s]) y.2) by rw [hy]; rfl]
  refine ⟨ha2.wrong, ha2.at_, fun h => ?_⟩
  obtain ⟨e1, e2⟩ := ha2.ok h
  refine ⟨?_, fun e => ?_⟩
  · show setV (r1.vars ++ [s]) (inOne K T r1).2 = setV (y.2.vars ++ [s]) y.2
    rw [e1] at hv ⊢
    rw [hv]
  · show (⟨s, (inOne K T r1).1⟩ : PDecl) = ⟨s, y.1⟩
    rw [e2 e]
theorem name_went (r : Rd) (o : Option Tok) : Went r (nameF r o).2 := by
  unfold nameF
  split
  · exact ⟨by simp [step1], .inr (by simp [step1])⟩
  · exact ⟨by simp [fail1], .inl rfl⟩
theorem fine_one (K : Nat) : Fine (declOne K) := fine_seq (fine_look ok_name) fun _ => fine_seq (fine_look (ok_must (by decide))) fun _ => fine_seq (fine_ranges K _) fun _ => fine_seq (fine_add _) fun _ => fine_ret _
theorem one_went (K : Nat) (T : List Tok) (r : Rd) : Went r (declOne K T r).2 := by
  have h1 := name_went r (next T r)
  have hT : Tame (seq (Pa.look (mustF tIn)) fun _ => seq (rangesR K []) fun dom => seq (addVar (nameF r (next T r)).1) fun _ => ret (⟨(nameF r (next T r)).1, dom⟩ : PDecl)) := tame_seq (tame_must (by decide)) fun _ => tame_seq (tame_ranges K _) fun _ => tame_seq (tame_add _) fun _ => tame_ret _
  have h2 := hT.up T (nameF r (next T r)).2
  refine ⟨Nat.le_trans h1.up h2, ?_⟩
  rcases h1.on with e | e
  · exact .inl (hT.wrong T _ e)
  · exact .inr (Nat.lt_of_lt_of_le e h2)
theorem decls_eqQ (K j : Nat) (l : List PDecl) (T : List Tok) (r : Rd) : declsQ K (j + 1) l T r = if (hasF tComma r (next T r)).1 = true then (seq (declQ K) fun d => declsQ K j (l ++ [d])) T (hasF tComma r (next T r)).2 else (l, (hasF tComma r (next T r)).2) := by
  show (if (hasF tComma r (next T r)).1 = true then seq (declQ K) fun d => declsQ K j (l ++ [d]) else ret l) T (hasF tComma r (next T r)).2 = _
  rw [if_app]
  rfl
theorem sim_decls {K : Nat} : ∀ (n k : Nat) (l l' : List PDecl) (T : List Tok) (r : Rd), T.length < K → Fuel T.length n r → Fuel T.length k r → r.at_ ≤ T.length → (r.bad = none → l' = l) → Agr (declsR K n l T r) ((seq (declQ K) fun d => declsQ K k (l' ++ [d])) T r)
  | 0, k, l, l', T, r, _, hf, _, ht, _ => by
    have hw : r.wrong = true := by
      rcases hf with e | e
      · exact e
      · omega
    exact agr_wrong (tame_declsR K 0 l) (tame_seq (tame_decl K) fun _ => tame_decls K k _) hw hw rfl
  | n + 1, k, l, l', T, r, hK, hf, hk, ht, hl => by
    cases hw : r.wrong
    case true => exact agr_wrong (tame_declsR K (n + 1) l) (tame_seq (tame_decl K) fun _ => tame_decls K k _) hw hw rfl
    have ha := sim_decl (K := K) T r hK ht
    have hg := one_went K T r
    have htop := (fine_one K).top T r ht
    have hbm := (tame_declOne K).bad T r
    rw [decls_eq]
    show Agr _ (declsQ K k (l' ++ [(declQ K T r).1]) T (declQ K T r).2)
    obtain ⟨x, hx⟩ : ∃ x, x = declOne K T r := ⟨_, rfl⟩
    obtain ⟨y, hy⟩ : ∃ y, y = declQ K T r := ⟨_, rfl⟩
    rw [← hx] at ha hg htop hbm ⊢
    rw [← hy] at ha ⊢
    obtain ⟨d, r1⟩ := x
    obtain ⟨d', q1⟩ := y
    simp only at hg htop hbm
    cases hw1 : r1.wrong
    case true =>
      have hq1 : q1.wrong = true := by have := ha.wrong; simp only at this; rw [this, hw1]
      have hn : hasF tComma r1 (next T r1) = (false, r1) := by
        rw [nextW hw1]
        rfl
      rw [hn]
      simp only [Bool.false_eq_true, if_false]
      exact ⟨by rw [(tame_decls K k _).wrong T q1 hq1]; exact hw1.symm, by rw [(tame_decls K k _).stay T q1 hq1]; exact ha.at_, fun h => by simp only at h; rw [hw1] at h; cases h⟩
    obtain ⟨e1, e2⟩ := ha.ok hw1
    simp only at e1 e2
    subst e1
    have hlt : r.at_ < q1.at_ := hg.on.resolve_left (by rw [hw1]; simp)
    obtain ⟨k', rfl⟩ := fuel_pos (fuel_keep hk hw hg) hw1 htop
    rw [decls_eqQ]
    have hcomma := tame_has (s := tComma) (by decide)
    have hup := hcomma.up T q1
    rw [show (Pa.look (hasF tComma) T q1).2 = (hasF tComma q1 (next T q1)).2 from rfl] at hup
    have hct := (fine_look (ok_has (s := tComma) (by decide))).top T q1 htop
    rw [show (Pa.look (hasF tComma) T q1).2 = (hasF tComma q1 (next T q1)).2 from rfl] at hct
    have hcb := hcomma.bad T q1
    rw [show (Pa.look (hasF tComma) T q1).2 = (hasF tComma q1 (next T q1)).2 from rfl] at hcb
    by_cases hm : (hasF tComma q1 (next T q1)).1 = true
    · rw [if_pos hm, if_pos hm]
      refine sim_decls n k' _ _ T _ hK ?_ ?_ hct (fun e => ?_)
      · rcases hf with q | q
        · rw [hw] at q; cases q
        · exact .inr (show T.length < n + (hasF tComma q1 (next T q1)).2.at_ by omega)
      · rcases hk with q | q
        · rw [hw] at q; cases q
        · exact .inr (show T.length < k' + (hasF tComma q1 (next T q1)).2.at_ by omega)
      · have hb := hcb e
        rw [e2 hb, hl (hbm hb)]
    · rw [if_neg hm, if_neg hm]
      exact ⟨rfl, rfl, fun _ => ⟨rfl, fun e => by
        have hb := hcb e
        show l' ++ [d'] = l ++ [d]
        rw [e2 hb, hl (hbm hb)]⟩⟩
theorem sim_where {K : Nat} (b : Bool) : Sim K (whereR K b) (whereQ K b) := sim_if sim_list (sim_refl _)
theorem sim_block {K : Nat} : Sim K (blockR K) (blockQ K) := sim_same (fine_look (ok_has (by decide))) fun all => sim_same (fine_head all) fun _ => by
  have hd : Sim K (declsR K K []) (seq (declQ K) fun d => declsQ K K [d]) := fun T r hK ht => sim_decls K K [] [] T r hK (fuel_start hK) (fuel_start hK) ht fun _ => rfl
  show Sim K (seq (declsR K K []) fun vs => seq (Pa.look (hasF tWhere)) fun b => seq (whereR K b) fun cs => seq (Pa.look (mustF tSemi)) fun _ => ret (⟨all, vs, cs⟩ : PBlock)) (seq (seq (declQ K) fun d => declsQ K K [d]) fun vs => seq (Pa.look (hasF tWhere)) fun b => seq (whereQ K b) fun cs => seq (Pa.look (mustF tSemi)) fun _ => ret (⟨all, vs, cs⟩ : PBlock))
  refine sim_seq hd (fine_decls K K []) ?_ (fun vs => tame_seq (tame_has (by decide)) fun _ => tame_seq (tame_whereR K _) fun _ => tame_seq (tame_must (by decide)) fun _ => tame_ret _) (fun vs => tame_seq (tame_has (by decide)) fun _ => tame_seq (tame_where K _) fun _ => tame_seq (tame_must (by decide)) fun _ => tame_ret _)
  refine simA_same (F := fun (vs : List PDecl) b => seq (whereR K b) fun cs => seq (Pa.look (mustF tSemi)) fun _ => ret (⟨all, vs, cs⟩ : PBlock)) (G := fun (vs : List PDecl) b => seq (whereQ K b) fun cs => seq (Pa.look (mustF tSemi)) fun _ => ret (⟨all, vs, cs⟩ : PBlock)) (fine_look (ok_has (by decide))) (tame_has (by decide)) fun b => ?_
  exact simA_acc (F := fun q : List PDecl × List PCon => seq (Pa.look (mustF tSemi)) fun _ => ret (⟨all, q.1, q.2⟩ : PBlock)) (G := fun q : List PDecl × List PCon => seq (Pa.look (mustF tSemi)) fun _ => ret (⟨all, q.1, q.2⟩ : PBlock)) (fun vs cs => (vs, cs)) (sim_where b) (fine_where K b) (tame_whereR K b)
    (simA_same (F := fun (q : List PDecl × List PCon) _ => ret (⟨all, q.1, q.2⟩ : PBlock)) (G := fun (q : List PDecl × List PCon) _ => ret (⟨all, q.1, q.2⟩ : PBlock)) (fine_look (ok_must (by decide))) (tame_must (by decide)) fun _ => simA_ret _) (fun _ => tame_seq (tame_must (by decide)) fun _ => tame_ret _) (fun _ => tame_seq (tame_must (by decide)) fun _ => tame_ret _)
theorem wentR_seq {α β : Type} {m : Rx α} {f : α → Rx β} (hm : Tame m) (hf : ∀ a T r, Went r (f a T r).2) (T : List Tok) (r : Rd) : Went r (seq m f T r).2 :=
  ⟨Nat.le_trans (hm.up T r) (hf _ T _).up, (hf (m T r).1 T (m T r).2).on.imp id fun e => Nat.lt_of_le_of_lt (hm.up T r) e⟩
theorem wentR_must {α : Type} (s : Txt) (x : α) (T : List Tok) (r : Rd) : Went r ((seq (Pa.look (mustF s)) fun _ => ret x) T r).2 := by
  show Went r (mustF s r (next T r)).2
  unfold mustF
  split
  · exact ⟨by simp [step1], .inr (by simp [step1])⟩
  · exact ⟨by simp [fail1], .inl rfl⟩
theorem blockR_went (K : Nat) (T : List Tok) (r : Rd) : Went r (blockR K T r).2 :=
  wentR_seq (tame_has (by decide)) (fun _ => wentR_seq (tame_head _) fun _ => wentR_seq (tame_declsR K K _) fun _ => wentR_seq (tame_has (by decide)) fun _ => wentR_seq (tame_whereR K _) fun _ => wentR_must tSemi _) T r
theorem blocks_eqR (K n : Nat) (l : List PBlock) (T : List Tok) (r : Rd) : blocksR K (n + 1) l T r = if (!decide (textO (next T (blockR K T r).2) = tGoal) && !(blockR K T r).2.wrong) = true then blocksR K n (l ++ [(blockR K T r).1]) T (blockR K T r).2 else (l ++ [(blockR K T r).1], (blockR K T r).2) := by
  show (if (!decide (textO (next T (blockR K T r).2) = tGoal) && !(blockR K T r).2.wrong) = true then blocksR K n (l ++ [(blockR K T r).1]) else ret (l ++ [(blockR K T r).1])) T (blockR K T r).2 = _
  rw [if_app]
  rfl
theorem blocks_eqQ (K j : Nat) (l : List PBlock) (T : List Tok) (r : Rd) : blocksQ K (j + 1) l T r = if (hasF tGoal r (next T r)).1 = true then (l, (hasF tGoal r (next T r)).2) else (seq (blockQ K) fun x => blocksQ K j (l ++ [x])) T (hasF tGoal r (next T r)).2 := by
  show (if (hasF tGoal r (next T r)).1 = true then ret l else seq (blockQ K) fun x => blocksQ K j (l ++ [x])) T (hasF tGoal r (next T r)).2 = _
  rw [if_app]
  rfl
def goalR (K n : Nat) (l : List PBlock) : Rx (List PBlock) := seq (blocksR K n l) fun bs => seq (Pa.look (mustF tGoal)) fun _ => ret bs
theorem tame_goalR (K n : Nat) (l : List PBlock) : Tame (goalR K n l) := tame_seq (tame_blocksR K n l) fun _ => tame_seq (tame_must (by decide)) fun _ => tame_ret _
theorem sim_blocks {K : Nat} : ∀ (n k : Nat) (l l' : List PBlock) (T : List Tok) (r : Rd), T.length < K → Fuel T.length n r → Fuel T.length k r → r.at_ ≤ T.length → (r.bad = none → l' = l) → Agr (goalR K n l T r) ((seq (blockQ K) fun x => blocksQ K k (l' ++ [x])) T r)
  | 0, k, l, l', T, r, _, hf, _, ht, _ => by
    have hw : r.wrong = true := by
      rcases hf with e | e
      · exact e
      · omega
    exact agr_wrong (tame_goalR K 0 l) (tame_seq (tame_block K) fun _ => tame_blocks K k _) hw hw rfl
  | n + 1, k, l, l', T, r, hK, hf, hk, ht, hl => by
    cases hw : r.wrong
    case true => exact agr_wrong (tame_goalR K (n + 1) l) (tame_seq (tame_block K) fun _ => tame_blocks K k _) hw hw rfl
    have ha := sim_block (K := K) T r hK ht
    have hg := blockR_went K T r
    have htop := (fine_block K).top T r ht
    have hbm := (tame_blockR K).bad T r
    have e0 : goalR K (n + 1) l T r = if (!decide (textO (next T (blockR K T r).2) = tGoal) && !(blockR K T r).2.wrong) = true then goalR K n (l ++ [(blockR K T r).1]) T (blockR K T r).2 else (l ++ [(blockR K T r).1], (mustF tGoal (blockR K T r).2 (next T (blockR K T r).2)).2) := by
      show ((blocksR K (n + 1) l T r).1, (mustF tGoal (blocksR K (n + 1) l T r).2 (next T (blocksR K (n + 1) l T r).2)).2) = _
      rw [blocks_eqR]
      split <;> rfl
    rw [e0]
    show Agr _ (blocksQ K k (l' ++ [(blockQ K T r).1]) T (blockQ K T r).2)
    obtain ⟨x, hx⟩ : ∃ x, x = blockR K T r := ⟨_, rfl⟩
    obtain ⟨y, hy⟩ : ∃ y, y = blockQ K T r := ⟨_, rfl⟩
    rw [← hx] at ha hg htop hbm ⊢
    rw [← hy] at ha ⊢
    obtain ⟨d, r1⟩ := x
    obtain ⟨d', q1⟩ := y
    simp only at hg htop hbm ⊢
    cases hw1 : r1.wrong
    case true =>
      have hq1 : q1.wrong = true := by have := ha.wrong; simp only at this; rw [this, hw1]
      rw [if_neg (by simp)]
      exact ⟨by rw [(tame_blocks K k _).wrong T q1 hq1]; exact ((tame_must (s := tGoal) (by decide)).wrong T r1 hw1).symm, by rw [(tame_blocks K k _).stay T q1 hq1]; exact ha.at_.trans ((tame_must (s := tGoal) (by decide)).stay T r1 hw1).symm, fun h => by
        have h2 := (tame_must (s := tGoal) (by decide)).wrong T r1 hw1
        rw [show (Pa.look (mustF tGoal) T r1).2 = (mustF tGoal r1 (next T r1)).2 from rfl] at h2
        simp only at h
        rw [h2] at h
        cases h⟩
    obtain ⟨e1, e2⟩ := ha.ok hw1
    simp only at e1 e2
    subst e1
    have hlt : r.at_ < q1.at_ := hg.on.resolve_left (by rw [hw1]; simp)
    obtain ⟨k', rfl⟩ := fuel_pos (fuel_keep hk hw hg) hw1 htop
    rw [blocks_eqQ]
    by_cases hm : textO (next T q1) = tGoal
    · rw [if_neg (by rw [decide_eq_true hm]; simp), has_pos hm, must_step hm]
      exact ⟨rfl, rfl, fun _ => ⟨rfl, fun e => by
        have hb : q1.bad = none := e
        show l' ++ [d'] = l ++ [d]
        rw [e2 hb, hl (hbm hb)]⟩⟩
    · rw [if_pos (by rw [decide_eq_false hm]; rfl), has_neg hm]
      refine sim_blocks n k' _ _ T q1 hK ?_ ?_ htop (fun e => by rw [e2 e, hl (hbm e)])
      · rcases hf with q | q
        · rw [hw] at q; cases q
        · exact .inr (by omega)
      · rcases hk with q | q
        · rw [hw] at q; cases q
        · exact .inr (by omega)
/-- all but what stands behind a model's end -/
def wholeQ (K : Nat) : Rx PModel := seq (blockQ K) fun b => seq (blocksQ K K [b]) fun bs => seq (listQ K) fun g => seq (Pa.look (mustF tSemi)) fun _ => ret ⟨bs, g⟩
theorem tame_wholeQ (K : Nat) : Tame (wholeQ K) := tame_seq (tame_block K) fun _ => tame_seq (tame_blocks K K _) fun _ => tame_seq (tame_list K) fun _ => tame_seq (tame_must (by decide)) fun _ => tame_ret _
theorem sim_body {K : Nat} : Sim K (bodyR K) (wholeQ K) := by
  have hb : Sim K (goalR K K []) (seq (blockQ K) fun b => blocksQ K K [b]) := fun T r hK ht => sim_blocks K K [] [] T r hK (fuel_start hK) (fuel_start hK) ht fun _ => rfl
  have hg : Fine (goalR K K []) := fine_seq (fine_blocks K K []) fun _ => fine_seq (fine_look (ok_must (by decide))) fun _ => fine_ret _
  show Sim K (seq (goalR K K []) fun bs => seq (listR K) fun g => seq (Pa.look (mustF tSemi)) fun _ => ret (⟨bs, g⟩ : PModel)) (seq (seq (blockQ K) fun b => blocksQ K K [b]) fun bs => seq (listQ K) fun g => seq (Pa.look (mustF tSemi)) fun _ => ret (⟨bs, g⟩ : PModel))
  refine sim_seq hb hg ?_ (fun _ => tame_seq (tame_listR K) fun _ => tame_seq (tame_must (by decide)) fun _ => tame_ret _) (fun _ => tame_seq (tame_list K) fun _ => tame_seq (tame_must (by decide)) fun _ => tame_ret _)
  exact simA_acc (F := fun q : List PBlock × List PCon => seq (Pa.look (mustF tSemi)) fun _ => ret (⟨q.1, q.2⟩ : PModel)) (G := fun q : List PBlock × List PCon => seq (Pa.look (mustF tSemi)) fun _ => ret (⟨q.1, q.2⟩ : PModel)) (fun bs g => (bs, g)) sim_list (fine_list K) (tame_listR K)
    (simA_same (F := fun (q : List PBlock × List PCon) _ => ret (⟨q.1, q.2⟩ : PModel)) (G := fun (q : List PBlock × List PCon) _ => ret (⟨q.1, q.2⟩ : PModel)) (fine_look (ok_must (by decide))) (tame_must (by decide)) fun _ => simA_ret _) (fun _ => tame_seq (tame_must (by decide)) fun _ => tame_ret _) (fun _ => tame_seq (tame_must (by decide)) fun _ => tame_ret _)
theorem model_whole (K : Nat) (T : List Tok) (r : Rd) : modelQ K T r = ((wholeQ K T r).1, (endQ T (wholeQ K T r).2).2) := rfl
end Go.Proofs.YtkgieaoahijheaaGreatDoor.Pp
namespace Go.Proofs.YtkgieaoahijheaaGreatDoor.Pp
open Sc (Tok noTok scanL mostV)
open Pa
set_option maxRecDepth 100000

theorem step_value {c : UInt8} {r : List UInt8} {k m v : Nat} (h : Sc.step c r = .tok k m v) : v ≤ mostV := by
  unfold Sc.step at h
  split at h
  · cases h
  · unfold Sc.first at h
    split at h
    · cases h; decide
    · split at h
      · split at h
        · rename_i hv
          cases h
          exact hv
        · cases h
      · split at h
        · cases h
        · cases h; decide
theorem small_tokens {a : Nat} {l : List UInt8} {T : List Tok} (h : scanL a l = .ok T) : T.length ≤ l.length ∧ ∀ t ∈ T, t.value ≤ 2000000000000 ∧ t.text.length ≤ l.length ∧ t.at_ < a + l.length := by
  obtain ⟨h1, h2⟩ := Sc.known a l T h
  refine ⟨h1, fun t ht => ?_⟩
  obtain ⟨i, hi⟩ := List.getElem?_of_mem ht
  obtain ⟨_, g2, g3, ⟨c, r, _, hs⟩, _⟩ := h2 i t hi
  have hm : mostV ≤ 2000000000000 := by decide
  exact ⟨Nat.le_trans (step_value hs) hm, g3, g2⟩
theorem place_tok {T : List Tok} {len n : Nat} (h : n ≤ T.length) : placeT T len n = (((T ++ [(⟨0, [], 0, len⟩ : Tok)]).getD n noTok)).at_ := by
  unfold placeT
  by_cases hn : n < T.length
  · rw [List.getElem?_eq_getElem hn]
    simp only [List.getD]
    rw [List.getElem?_append_left hn, List.getElem?_eq_getElem hn]
    rfl
  · obtain rfl : n = T.length := by omega
    rw [List.getElem?_eq_none_iff.2 (Nat.le_refl _)]
    simp only [List.getD]
    rw [List.getElem?_append_right (Nat.le_refl _)]
    simp
/-- what is told of tokens -/
theorem parse_gone {K : Nat} {T : List Tok} {len : Nat} (hK : T.length < K) (h : (modelQ K T Pa.start).2.wrong = true) : parseT K T len = .err (((T ++ [(⟨0, [], 0, len⟩ : Tok)]).getD (modelQ K T Pa.start).2.at_ noTok)).at_ 2 := by
  have ha := sim_body (K := K) T Pa.start hK (Nat.zero_le _)
  have ht := body_top K T
  rw [model_whole] at h ⊢
  simp only at h ⊢
  unfold parseT outT
  cases hw : (wholeQ K T Pa.start).2.wrong
  · obtain ⟨e1, _⟩ := ha.ok (by rw [← ha.wrong, hw])
    unfold endQ at h ⊢
    rw [hw] at h ⊢
    simp only [Bool.false_eq_true, if_false] at h ⊢
    by_cases hl : (wholeQ K T Pa.start).2.at_ < T.length
    · rw [if_pos hl]
      rw [if_pos (.inr (by rw [← e1]; exact hl)), ← e1]
      simp only [fail1]
      rw [place_tok (by omega)]
    · rw [if_neg hl] at h
      simp only at h
      rw [hw] at h
      cases h
  · rw [if_pos (.inl (by rw [← ha.wrong, hw]))]
    unfold endQ
    rw [if_pos hw]
    simp only
    rw [ha.at_, place_tok ht]
open Classical in
theorem parse_done {K : Nat} {T : List Tok} {len : Nat} (hK : T.length < K) (h : (modelQ K T Pa.start).2.wrong = false) : parseT K T len = (match (modelQ K T Pa.start).2.bad with
    | some p => .err p 7
    | none => if checkM (modelQ K T Pa.start).1 = 0 then .model (modelQ K T Pa.start).1 else .err 0 (checkM (modelQ K T Pa.start).1)) ∧ ((modelQ K T Pa.start).2.bad = none → (modelQ K T Pa.start).1 = (bodyR K T Pa.start).1 ∧ (bodyR K T Pa.start).2.wrong = false) := by
  have ha := sim_body (K := K) T Pa.start hK (Nat.zero_le _)
  rw [model_whole] at h ⊢
  simp only at h ⊢
  cases hw : (wholeQ K T Pa.start).2.wrong
  · obtain ⟨e1, e2⟩ := ha.ok (by rw [← ha.wrong, hw])
    unfold endQ at h ⊢
    rw [hw] at h ⊢
    simp only [Bool.false_eq_true, if_false] at h ⊢
    by_cases hl : (wholeQ K T Pa.start).2.at_ < T.length
    · rw [if_pos hl] at h
      cases h
    · rw [if_neg hl]
      simp only
      unfold parseT outT
      rw [if_neg (by rw [← e1, hw]; simp; omega), ← e1]
      refine ⟨?_, fun hb => ⟨e2 (by rw [← e1]; exact hb), hw⟩⟩
      cases hb : (wholeQ K T Pa.start).2.bad with
      | some p => rfl
      | none =>
        simp only
        rw [e2 (by rw [← e1]; exact hb)]
  · exfalso
    unfold endQ at h
    rw [if_pos hw] at h
    simp only at h
    rw [hw] at h
    cases h
theorem few_body {K : Nat} {T : List Tok} (hT : T.length ≤ 1000) (hx : ∀ t ∈ T, t.text.length ≤ 1000) (h : (bodyR K T Pa.start).2.wrong = false) : Few (bodyR K T Pa.start).1 := by
  obtain ⟨h1, h2⟩ := (sz_body (B := 1000) K).size T Pa.start hx h
  have ht := body_top K T
  have hk : (bodyR K T Pa.start).2.at_ - Pa.start.at_ ≤ 1000 := by omega
  obtain ⟨k, hk2⟩ : ∃ k, k = (bodyR K T Pa.start).2.at_ - Pa.start.at_ := ⟨_, rfl⟩
  rw [← hk2] at h1 h2 hk
  have hs : ∀ c : PCon, Of c k → Short 1000 c := fun c hc => ⟨by have := hc.vars; omega, by have := hc.coefs; omega, by have := hc.nums; omega⟩
  exact ⟨by have := h1.len; omega, fun b hb => by have := (h1.each b hb).vars.len; omega, fun b hb => ⟨by have := (h1.each b hb).cons.len; omega, fun c hc => hs c ((h1.each b hb).cons.each c hc)⟩, ⟨by have := h2.len; omega, fun c hc => hs c (h2.each c hc)⟩, fun b hb d hd => by have := (h1.each b hb).vars.each d hd; omega, by have := h1.vars; omega⟩
theorem good_body {K : Nat} {T : List Tok} (hv : ∀ t ∈ T, t.value ≤ 2000000000000) : (∀ b ∈ (bodyR K T Pa.start).1.blocks, GoodL b.cons) ∧ GoodL (bodyR K T Pa.start).1.goal := gives_body K T Pa.start hv
end Go.Proofs.YtkgieaoahijheaaGreatDoor.Pp
namespace Go.Proofs.YtkgieaoahijheaaGreatDoor.Sc
open Go.RowKit

/-- what a call of Scan hands back: the tokens (their type's number is t) in memory from base on, or the place and what is wrong -/
def ScanPost (t : TypeId) (base : Nat) (R : Res) (e : Ending) (w' : World) : Prop :=
  match R with
  | .ok L => ∃ v, e = .returned (.tuple #[v, .int .i64 0, .int .i64 0]) ∧ OwnsT t w' base v L
  | .bad p x => e = .returned (.tuple #[.slice none 0 0, .int .i64 (p : Nat), .int .i64 (x : Nat)])

theorem scan_long (s : ByteArray) (w : World) (hm : 4000 < s.size) :
    Calls Tryz.prog 18 #[.string s] w fun e w' => e = .returned (.tuple #[.slice none 0 0, .int .i64 0, .int .i64 5]) ∧ w' = w := by
  have h1 : (4000 : Int) < ((s.size : Nat) : Int) := by omega
  go_enter Tryz.func18, Tryz.ntmps18
  go_wp2_with fail
  go_ret3
  exact ⟨rfl, rfl⟩

theorem cut_from (s : ByteArray) (k : Nat) (h : k ≤ s.size) (W : World) : (Instr.slice 9 (.string s) (some (.int .i64 (k : Int))) none none).run Tryz.prog W = .ok (.string (s.extract k s.size)) W := by
  rw [run_slice_string_from_if W 9 s .i64 (k : Int) Tryz.underlying9, if_pos ⟨by omega, by omega⟩]
  rfl
theorem txt_from (s : ByteArray) (k : Nat) : txt (s.extract k s.size) = (txt s).drop k := by
  show (s.extract k s.size).data.toList = _
  rw [Lib.extract_data, List.take_of_length_le (by rw [List.length_drop, ← txt_size]; exact Nat.le_refl _)]
theorem size_from (s : ByteArray) (k : Nat) : (s.extract k s.size).size = s.size - k := by
  rw [txt_size, txt_from, List.length_drop, ← txt_size]

/-- how far a loop over a text has come: A is told, place k is next -/
structure Going (l : List UInt8) (k : Nat) (A : List Tok) : Prop where
  rest : scanL 0 l = (scanL k (l.drop k)).app A
  few : A.length ≤ k
theorem going_start (l : List UInt8) : Going l 0 [] := ⟨by simp [Res.app_nil], Nat.le_refl _⟩
theorem going_skip {l : List UInt8} {k : Nat} {A : List Tok} {c : UInt8} (h : Going l k A) (e : l.drop k = c :: l.drop (k + 1)) (hs : between c = true) : Going l (k + 1) A :=
  ⟨by rw [h.rest, e, scan_skip k (by rw [step, if_pos hs])], by have := h.few; omega⟩
theorem going_tok {l : List UInt8} {k : Nat} {A : List Tok} {c : UInt8} {kd m v : Nat} (h : Going l k A) (e : l.drop k = c :: l.drop (k + 1)) (hs : between c = false) (hf : first c (l.drop (k + 1)) = .tok kd m v) :
    Going l (k + m) (A ++ [⟨kd, (l.drop k).take m, v, k⟩]) ∧ 0 < m ∧ k + m ≤ l.length := by
  have hz := first_size hf
  have hl : (l.drop k).length = (c :: l.drop (k + 1)).length := by rw [← e]
  rw [← hl, List.length_drop] at hz
  refine ⟨⟨?_, ?_⟩, hz.1, by omega⟩
  · rw [h.rest]
    have := scan_tok (c := c) (r := l.drop (k + 1)) (k := kd) (m := m) (v := v) k (by rw [step, if_neg (by simp [hs]), hf])
    rw [← e] at this
    rw [this, Res.app_cons, List.drop_drop]
  · have := h.few
    rw [List.length_append, List.length_singleton]
    omega
theorem going_bad {l : List UInt8} {k : Nat} {A : List Tok} {c : UInt8} {x : Nat} (h : Going l k A) (e : l.drop k = c :: l.drop (k + 1)) (hs : between c = false) (hf : first c (l.drop (k + 1)) = .bad x) : scanL 0 l = .bad k x := by
  rw [h.rest, e, scan_bad k (by rw [step, if_neg (by simp [hs]), hf])]
  rfl
theorem going_end {l : List UInt8} {k : Nat} {A : List Tok} (h : Going l k A) (hk : l.length ≤ k) : scanL 0 l = .ok A := by
  rw [h.rest, List.drop_of_length_le hk, scan_nil]
  simp [Res.app]
theorem ans_tok (s : ByteArray) (k m v : Nat) : ans s (.tok k m v) = .tuple #[.agg #[.int .i64 (k : Nat), .string (s.extract 0 m), .int .i64 (v : Nat), .int .i64 0], .int .i64 0] := rfl
theorem ans_bad (s : ByteArray) (x : Nat) : ans s (.bad x) = .tuple #[.agg #[.int .i64 0, .string ⟨#[]⟩, .int .i64 0, .int .i64 0], .int .i64 (x : Nat)] := rfl
theorem size_cut {t : ByteArray} {m : Nat} (h : m ≤ t.size) : (t.extract 0 m).size = m := by
  rw [txt_size] at h
  rw [txt_size]
  show ((t.extract 0 m).data.toList).length = m
  rw [Lib.extract_data, List.drop_zero, List.length_take]
  have e : (txt t).length = t.data.toList.length := rfl
  omega
theorem cells_tok (w : World) (kd v k : Nat) (q : ByteArray) (tx : List UInt8) (h : Value.string q = str tx) (g : Nat) (hg : g = w.heap.size) {ty : TypeId} : ∀ j z, (cells4 ⟨kd, tx, v, k⟩)[j]? = some z → (w.alloc (.cells #[.int .i64 kd, .string q, .int .i64 v, .int .i64 k] ty)).cell? ((⟨g, 0, none⟩ : Addr).add j) = some z := by
  subst hg
  intro j z hj
  refine cells_four w _ _ _ _ ty j z ?_
  rw [h]
  exact hj
theorem first_small {c : UInt8} {r : List UInt8} {k m v : Nat} (h : first c r = .tok k m v) : v ≤ mostV := by
  unfold first at h
  split at h
  · cases h; omega
  · split at h
    · split at h
      · cases h; assumption
      · cases h
    · split at h
      · cases h
      · cases h; omega
theorem first_not_skip {c : UInt8} {r : List UInt8} : first c r ≠ .skip := by
  unfold first
  split
  · simp
  · split
    · split <;> simp
    · split <;> simp

set_option maxRecDepth 100000 in
set_option maxHeartbeats 2000000 in
theorem scan_any (s : ByteArray) (w : World) (hm : s.size ≤ 4000) :
    Calls Tryz.prog 18 #[.string s] w fun e w' => ScanPost 63 w.heap.size (scanL 0 (txt s)) e w' ∧ Below w.heap.size w w' := by
  obtain ⟨i0, hi, hz0, hz1, hz2⟩ := info_parts info34
  obtain ⟨n, hn⟩ : ∃ n, n = s.size := ⟨_, rfl⟩
  have hsz : ((s.size : Nat) : Int) = (n : Int) := by rw [hn]
  have HM := Lib.hid hm
  rw [← hn] at hm
  have HN := Lib.hid hn
  have HS := Lib.hid (going_start (txt s))
  have HL := Lib.hid (show n = (txt s).length by rw [hn, txt_size])
  have I := Lib.hid (And.intro hi (And.intro hz0 (And.intro hz1 hz2)))
  clear hi hz0 hz1 hz2 hn
  go_enter Tryz.func18, Tryz.ntmps18
  go_wp2_with fail
  go_loopw [5, 6] (fun l i wr => ∃ k : Nat, k ≤ n ∧ i = .int .i64 k ∧ ∃ A, Going (txt s) k A ∧ OwnsT 63 wr w.heap.size l A ∧ Below w.heap.size w wr) (fun _ i _ => n - (intOf i).toNat)
  case atStart => exact ⟨0, by omega, rfl, [], HS.out, World.ownsRow_nil _ _ _ _, Below.refl _ _⟩
  case round =>
    obtain ⟨k, hk, rfl, A, hgo, hown, hB⟩ := hrel
    obtain ⟨p, cp, rfl⟩ := shape hown
    have HG := Lib.hid hgo
    have HO := Lib.hid hown
    have HB := Lib.hid hB
    have hfew := hgo.few
    clear hgo hown hB
    by_cases hlt : k < n
    · obtain ⟨c, ec, ed⟩ := drop_at (l := txt s) (k := k) (by rw [← HL.out]; exact hlt)
      have hx := idx ec
      have hb := between_any c
      cases eb : between c
      · rw [eb] at hb
        have BT := Lib.hid hb
        have hcut := cut_from s k (by rw [← HN.out]; omega)
        have ht : txt (s.extract k s.size) = c :: (txt s).drop (k + 1) := by rw [txt_from, ed]
        have F := Lib.hid (fun W => first_any (s.extract k s.size) c ((txt s).drop (k + 1)) W (by rw [size_from, ← HN.out]; omega) ht)
        obtain ⟨t, et⟩ : ∃ t, t = s.extract k s.size := ⟨_, rfl⟩
        rw [← et] at hcut F ht
        have HT := Lib.hid ht
        clear hb ec et ht
        cases ef : first c ((txt s).drop (k + 1)) with
        | skip => exact absurd ef first_not_skip
        | bad x =>
          have hr := going_bad HG.out ed eb ef
          rw [ef] at F
          have hx5 : x = 2 ∨ x = 5 := scan_err hr
          have HX := Lib.hid hr
          clear hr ed eb ef
          rw [ans_bad] at F
          go_wp2_with (go_at_call 32; refine (BT.out _).mono ?_; rintro e w' ⟨rfl, rfl⟩)
          refine (F.out _).mono ?_
          rintro e w1 ⟨rfl, hB1⟩
          have HB1 := Lib.hid (HB.out.trans (hB1.mono HB.out.size))
          clear hB1
          have hx0 : ((x : Int) == 0) = false := beq_eq_false_iff_ne.2 (by omega)
          go_wp2_with fail
          go_ret3
          refine ⟨?_, HB1.out.alloc HB1.out.size _⟩
          rw [HX.out]
          exact rfl
        | tok kd m v =>
          obtain ⟨hr, hm0, hml⟩ := going_tok HG.out ed eb ef
          rw [ef] at F
          rw [← HL.out] at hml
          have hstr : Value.string (t.extract 0 m) = str (((txt s).drop k).take m) := by rw [str_cut, HT.out, ed]; rfl
          have hlen : (t.extract 0 m).size = m := size_cut (by rw [txt_size, HT.out, ← ed, List.length_drop, ← HL.out]; omega)
          have hv : v < 4611686018427387904 := by
            have := first_small ef
            unfold mostV at this
            omega
          rw [ans_tok] at F
          obtain ⟨q, eq⟩ : ∃ q, q = t.extract 0 m := ⟨_, rfl⟩
          rw [← eq] at F hstr hlen
          have HX := Lib.hid hr
          have HSTR := Lib.hid hstr
          have hlen2 : ((q.size : Nat) : Int) = (m : Int) := by rw [hlen]
          clear hr ed eb ef eq hstr hlen
          go_wp2_with (go_at_call 32; refine (BT.out _).mono ?_; rintro e w' ⟨rfl, rfl⟩)
          refine (F.out _).mono ?_
          rintro e w1 ⟨rfl, hB1⟩
          have HO1 := Lib.hid (owns_below HO.out hB1)
          have HB1 := Lib.hid (HB.out.trans (hB1.mono HB.out.size))
          clear hB1
          have hi := I.out.1
          have hz0 := I.out.2.1
          have hz1 := I.out.2.2.1
          have hz2 := I.out.2.2.2
          have HZ := Lib.hid (HB1.out.size)
          go_wp2_with (at_builtin; refine append_tok rfl _ _ 59 63 i0 Tryz.underlying59 hi hz0 hz1 hz2 rfl w.heap.size _ (w1.heap.size + 1) A ⟨kd, ((txt s).drop k).take m, v, k⟩ rfl rfl ((HO1.out.alloc _).alloc _) (cells_tok _ _ _ _ _ _ HSTR.out (w1.heap.size + 1) (by simp)) (by omega) (by have := HZ.out; simp; omega) ?_; intro v' w2 hown hgrow; have hq : w2.cell? ⟨w1.heap.size, 1, none⟩ = some (.string q) := cell_grown hgrow (fun e => Nat.lt_irrefl _ (HO1.out.lt _ e).2) (by go_simp))
          go_roundw
          case rel =>
            refine ⟨k + m, hml, by go_num, _, HX.out, hown, ?_⟩
            exact ((HB1.out.alloc HZ.out _).alloc (by have := HZ.out; simp; omega) _).grown hgrow (by have := HZ.out; simp; omega) (fun j e => (HO1.out.lt j e).1)
          case measure => simp [intOf]; omega
      · rw [eb] at hb
        have BT := Lib.hid hb
        have HX := Lib.hid (going_skip HG.out ed eb)
        clear hb eb ec ed
        go_wp2_with (go_at_call 32; refine (BT.out _).mono ?_; rintro e w' ⟨rfl, rfl⟩)
        go_roundw
        case rel => exact ⟨k + 1, by omega, by go_num, A, HX.out, HO.out, HB.out⟩
        case measure => simp [intOf]; omega
    · have hr := going_end HG.out (by rw [← HL.out]; omega)
      have HR := Lib.hid hr
      clear hr
      go_wp2
      go_ret3
      refine ⟨?_, HB.out⟩
      rw [HR.out]
      exact ⟨_, rfl, HO.out⟩
end Go.Proofs.YtkgieaoahijheaaGreatDoor.Sc
